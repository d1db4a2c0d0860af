/-
  firthref03.Join, span.Add, firthref03.Add: the same answers as span.Join's.
-/
import Derived.Test.YtpgpeigaoonpcabSpanPut
import Derived.Test.YtpgpeigaoonpcabSpanRightRef
namespace Go.Proofs.Ytpgpeigaoonpcab
namespace Span
open Go.RowKit
attribute [local go_sem ↓] Go.wp_at_zero Go.wp_at_succ

/-! The answers of Add. -/
open Classical in
noncomputable def addE (l : List Sp) (d : Int × Int) : Int := if okDot d then joinE l [(d.1, d.2, d.2)] else 1
open Classical in
noncomputable def addL (l : List Sp) (d : Int × Int) : List Sp := if okDot d then joinL l [(d.1, d.2, d.2)] else []
theorem add_good {l : List Sp} {s k : Int} (h : okDot (s, k)) : addL l (s, k) = joinL l [(s, k, k)] := if_pos h
theorem addE_good {l : List Sp} {s k : Int} (h : okDot (s, k)) : addE l (s, k) = joinE l [(s, k, k)] := if_pos h
theorem add_wrong {l : List Sp} {d : Int × Int} (h : ¬ okDot d) : addE l d = 1 ∧ addL l d = [] := ⟨if_neg h, if_neg h⟩
theorem addL_len (l : List Sp) (d : Int × Int) : (addL l d).length ≤ 1024 := by
  unfold addL
  split
  · exact joinL_len _ _
  · simp
theorem addE_range (l : List Sp) (d : Int × Int) : addE l d = 0 ∨ addE l d = 1 ∨ addE l d = 30 := by
  unfold addE
  split
  · exact joinE_range _ _
  · exact .inr (.inl rfl)

section
variable {P : Program} (w : World)
/-- append of a slice of spans, nil and empty ones too, onto a row of the call's own. -/
theorem wpList_append_ss {ops : Array Oper} {rest : List Oper} {o : Oper} {a : Act} {Q : Exit → Act → World → Prop} (hgd : o.guard = none) (s x : Operand) (t : TypeId)
    (ho : o.op = .call { callee := .builtin .append, args := #[s, x], argTypes := #[t, t] })
    (base : Nat) (e : TypeId) (i : TypeInfo) (z : Value) (bytes : Nat) (ht : P.underlying t = some (.slice e)) (hi : P.info? e = some i) (hz : i.zero = some z)
    (hsize : i.size = 3) (hby : i.bytes = bytes) (hzs : z.cells.size = 3)
    (v : Value) (n : Nat) (l : List Sp) (hs : a.eval s = v) (hown : w.ownsRow base e 3 v n (sps l)) (B : Nat) (A : Option Addr) (m c : Nat) (ys : List Sp) (hm : ys.length = m)
    (hx : a.eval x = .slice A m c) (hr : Ss w B A ys)
    (hbytes : (n + m) * bytes ≤ 140737488355328) (hn : n + m ≤ 140737488355328) (hbase : base ≤ w.heap.size)
    (h : ∀ v' w', w'.ownsRow base e 3 v' (n + m) (sps (l ++ ys)) → w.grownBy w' v.ownBlock → (v'.ownBlock = v.ownBlock ∨ v'.ownBlock = some w.heap.size) → wpList P ops Q rest (a.put o.dst v') w') :
    wpList P ops Q (o :: rest) a w := by
  subst hm
  have hone : ∀ u ∈ sps ys, u.oneCell' = true := by
    intro u hu
    obtain ⟨y, rfl⟩ := sps_cell ys u hu
    rfl
  rcases A with _ | ad
  · have h0 : ys = [] := by
      rcases Nat.eq_zero_or_pos ys.length with h0 | h0
      · exact List.eq_nil_of_length_eq_zero h0
      · obtain ⟨b, off, he, _⟩ := hr h0
        cases he
    subst h0
    refine wpList_plain hgd fun K hK => ?_
    have hrun : (Builtin.append_ #[t, t] o.type #[v, .slice none 0 c]).run P w = .ok v w := by
      rcases hown.2 with ⟨rfl, rfl⟩ | ⟨g, cap, cur, rfl, _, _, hnc, _⟩
      · simp [Builtin.append_, run_underlying ht, sizeOf, typeInfo, hi, Builtin.lenOf, Builtin.firstCells]
      · simp [Builtin.append_, run_underlying ht, sizeOf, typeInfo, hi, Builtin.lenOf, Builtin.firstCells, hnc, storeCells]
    unfold Oper.wp execOp
    simp only [ho, resolve, invoke, builtin, Sem.run_bind, Sem.run_pure, Result.andThen_ok, List.map_toArray, List.map_cons, List.map_nil, hs, hx, List.length_nil, hrun]
    exact hK _ _ (h v w (by simpa using hown) (World.grownBy.refl w _) (.inl rfl))
  · rcases ys with _ | ⟨y, ys⟩
    · refine wpList_append_own_at w hgd s x t ho base e i z 3 bytes ht hi hz hsize hby hzs (by omega) v n (sps l) hs hown ad 0 c [] hx (by simp) (by simp) (by simp) (by unfold maxLen; simp at hn; omega) hbytes hbase
        fun v' w' h1 h2 _ h4 => h v' w' (by simpa using h1) h2 h4
    · obtain ⟨b, off, he, _⟩ := hr (by simp)
      injection he with he
      subst he
      exact wpList_append_own_at w hgd s x t ho base e i z 3 bytes ht hi hz hsize hby hzs (by omega) v n (sps l) hs hown ⟨b, off, none⟩ _ c (sps (y :: ys)) hx (sps_length _) (Ss.cells hr) hone (by unfold maxLen; omega) hbytes hbase
        fun v' w' h1 h2 _ h4 => h v' w' (by rw [sps_append]; exact h1) h2 h4
end

set_option maxHeartbeats 2000000 in
set_option maxRecDepth 100000 in
theorem ref_join_any (A A' : Option Addr) (c c' n n' : Nat) (a b : List Sp) (hn : a.length = n) (hn' : b.length = n') (w : World) (hr : Ss w w.heap.size A a) (hr' : Ss w w.heap.size A' b) (hbig : n ≤ 140737488355328) (hbig' : n' ≤ 140737488355328) :
    Calls Try.prog 30 #[.slice A n c, .slice A' n' c'] w (JoinPost (joinL a b) (joinE a b) w) := by
  have h1 := ref_right_any A c n a hn w hr hbig
  have h2 := fun W h => ref_right_any A' c' n' b hn' W h hbig'
  obtain ⟨q1, hq1⟩ : ∃ q, decide (Right a) = q := ⟨_, rfl⟩
  obtain ⟨q2, hq2⟩ : ∃ q, decide (Right b) = q := ⟨_, rfl⟩
  rw [hq1] at h1
  rw [hq2] at h2
  obtain ⟨L, hL⟩ : ∃ L, joinL a b = L := ⟨_, rfl⟩
  obtain ⟨E, hE⟩ : ∃ E, joinE a b = E := ⟨_, rfl⟩
  rw [hL, hE]
  have HL := Lib.hid hL
  have HE := Lib.hid hE
  have H1 := Lib.hid h1
  have H2 := Lib.hid h2
  have HR := Lib.hid hr
  have HR' := Lib.hid hr'
  clear h1 h2 hr hr' hL hE
  cases q1
  · have hw := join_wrong (b := b) (fun h => of_decide_eq_false hq1 h.1)
    have HW := Lib.hid (And.intro (HL.out.symm.trans hw.2) (HE.out.symm.trans hw.1))
    clear hw hq1 hq2 H2 hn hn'
    go_enter Try.func30, Try.ntmps30
    go_wp2_with fail
    refine H1.out.mono ?_
    rintro e w1 ⟨rfl, b1⟩
    go_wp2
    go_ret2
    rw [HW.out.1, HW.out.2]
    exact joinPost_nil _ _ _ b1 _ rfl
  · cases q2
    · have hw := join_wrong (a := a) (fun h => of_decide_eq_false hq2 h.2)
      have HW := Lib.hid (And.intro (HL.out.symm.trans hw.2) (HE.out.symm.trans hw.1))
      clear hw hq1 hq2 hn hn'
      go_enter Try.func30, Try.ntmps30
      go_wp2_with fail
      refine H1.out.mono ?_
      rintro e w1 ⟨rfl, b1⟩
      have s1 := b1.size
      go_wp2_with fail
      refine (H2.out _ ((HR'.out.below b1).more s1)).mono ?_
      rintro e w2 ⟨rfl, b2⟩
      go_wp2
      go_ret2
      rw [HW.out.1, HW.out.2]
      exact joinPost_nil _ _ _ (b1.trans (b2.mono s1)) _ rfl
    · have hRa := of_decide_eq_true hq1
      have hRb := of_decide_eq_true hq2
      have hn1 : n ≤ 1024 := by rw [← hn]; exact hRa.1
      have hn2 : n' ≤ 1024 := by rw [← hn']; exact hRb.1
      have HA := Lib.hid (And.intro hRa hRb)
      have HN := Lib.hid (And.intro hn hn')
      clear hq1 hq2 hRa hRb hn hn'
      go_enter Try.func30, Try.ntmps30
      go_wp2_with fail
      refine H1.out.mono ?_
      rintro e w1 ⟨rfl, b1⟩
      have s1 := b1.size
      go_wp2_with fail
      refine (H2.out _ ((HR'.out.below b1).more s1)).mono ?_
      rintro e w2 ⟨rfl, b2⟩
      have s2 := b2.size
      have b12 := b1.trans (b2.mono s1)
      obtain ⟨info, hi, hz, hsize, hby⟩ := info_span
      have HI := Lib.hid (And.intro hi (And.intro hz (And.intro hsize hby)))
      have HR2 := Lib.hid (HR.out.below b12)
      clear hi hz hsize hby
      go_wp2_with (at_builtin; refine wpList_append_ss _ rfl _ _ _ rfl w.heap.size 52 info _ 24 Try.underlying31 HI.out.1 HI.out.2.1 HI.out.2.2.1 HI.out.2.2.2 rfl (.slice none 0 0) 0 [] rfl (World.ownsRow_nil _ _ _ _) w.heap.size A n c a HN.out.1 rfl HR2.out (by omega) (by omega) (Nat.le_trans s1 s2) ?_; intro v3 w3 o3 g3 _; obtain ⟨A3, c3, rfl⟩ := own_form o3; have HO3 := Lib.hid o3; have HB3 := Lib.hid (b12.grown g3 (Nat.le_trans s1 s2) (fun g hg => by cases hg)); clear o3 g3)
      have HJ0 := Lib.hid (And.intro (join_nil HA.out.1.2) (Nat.le_of_eq HN.out.1))
      clear H1 H2 s1 s2 b1 b2 b12 HR2
      go_loopw [6, 7] (fun v q wr => ∃ (i : Nat) (out : List Sp) (Ao : Option Addr) (co : Nat), i ≤ n' ∧ q = .int .i64 i ∧ v = .slice Ao out.length co ∧ Hid (OwnSs wr w.heap.size Ao co out) ∧ Hid (Below w.heap.size w wr) ∧ Hid (IsJoin a (b.take i) out ∧ out.length ≤ n + i)) (fun _ q _ => n' - (intOf q).toNat)
      case atStart =>
        refine ⟨0, a, A3, c3, by omega, rfl, ?_, Lib.hid ?_, HB3, by rw [List.take_zero]; exact HJ0⟩
        · rw [HN.out.1]
        · have := HO3.out
          rw [List.nil_append] at this
          exact own_back HN.out.1 (by simpa using this)
      case round =>
        obtain ⟨i, out, Ao, co, hi1, rfl, rfl, ho, hb, hj⟩ := hrel
        obtain ⟨m, hmm⟩ : ∃ m, out.length = m := ⟨_, rfl⟩
        have HM := Lib.hid hmm
        have hlen := hj.out.2
        rw [hmm] at hlen ⊢
        clear hmm HO3 HB3 HJ0
        by_cases hlt : i < n'
        · obtain ⟨⟨y0, y1, y2⟩, hy⟩ : ∃ y, b.getD i (0, 0, 0) = y := ⟨_, rfl⟩
          have hi2 : i < b.length := by rw [HN.out.2]; exact hlt
          obtain ⟨b0, off, rfl, hbB, d0, d1, d2⟩ := ss_at HR'.out HN.out.2 hb.out hlt hy
          have hyo := fine_getD HA.out.2.2 hi2 hy
          have hji := joinOf_is (b := [(y0, y1, y2)]) hj.out.1.1 (by simpa using hyo)
          have hJ : IsJoin a (b.take (i + 1)) (joinOf out [(y0, y1, y2)]) := by
            rw [take_one hi2 hy]
            exact join_snoc hj.out.1 hji.1
          have hp := fun W h => put_any Ao co m out HM.out (y0, y1, y2) hj.out.1.1 hyo W h (by omega)
          have hl2 : (joinOf out [(y0, y1, y2)]).length ≤ n + (i + 1) := by
            have := hji.2
            simp only [List.length_cons, List.length_nil] at this
            have := hj.out.2
            omega
          obtain ⟨R, hR⟩ : ∃ R, joinOf out [(y0, y1, y2)] = R := ⟨_, rfl⟩
          rw [hR] at hJ hp hl2
          have HP := Lib.hid hp
          have HJ := Lib.hid (And.intro hJ hl2)
          have HO := Lib.hid (own_at ho.out HM.out)
          have hsz := hb.out.size
          simp only at d0 d1 d2
          clear hR hp hJ hl2 hji hyo hy HA HN HL HE HR HR' hj hlen
          go_wp2_with fail
          refine (HP.out wr (own_ss (l := out) (by rw [HM.out]; exact HO.out))).mono ?_
          rintro e W2 ⟨A2, c2, rfl, o2, b2⟩
          have HO2 := Lib.hid (own_base o2 hsz)
          have HB2 := Lib.hid (hb.out.trans (b2.mono hsz))
          clear o2 b2 HP
          go_wp2
          exact ⟨⟨i + 1, R, A2, c2, by omega, rfl, rfl, HO2, HB2, HJ⟩, by simp only [intOf]; omega⟩
        · have hie : i = n' := by omega
          have hE := hj.out.1
          rw [hie, ← HN.out.2, List.take_length] at hE
          have hl : m ≤ 2048 := by omega
          by_cases hlong : 1024 < m
          · have hw := join_long HA.out.1 HA.out.2 hE (by rw [HM.out]; exact hlong)
            have HW := Lib.hid (And.intro (HL.out.symm.trans hw.2) (HE.out.symm.trans hw.1))
            clear HR HR' HA HN HL HE hE hw hj
            go_wp2
            go_ret2
            rw [HW.out.1, HW.out.2]
            exact joinPost_nil _ _ _ hb.out _ rfl
          · have hw := join_good HA.out.1 HA.out.2 hE (by rw [HM.out]; omega)
            have HW := Lib.hid (And.intro (HL.out.symm.trans hw.2) (HE.out.symm.trans hw.1))
            clear HR HR' HA HN HL HE hE hw hj
            go_wp2
            go_ret2
            rw [HW.out.1, HW.out.2]
            exact ⟨Ao, co, by rw [HM.out]; rfl, ho.out, hb.out⟩
set_option maxHeartbeats 1000000 in
theorem add_any (A : Option Addr) (c n : Nat) (l : List Sp) (hn : l.length = n) (s k : Int) (w : World) (hr : Ss w w.heap.size A l) (hbig : n ≤ 140737488355328) :
    Calls Try.prog 26 #[.slice A n c, .agg #[.int .i64 s, .int .i64 k]] w (JoinPost (addL l (s, k)) (addE l (s, k)) w) := by
  have h1 := rightDot_is (s, k)
  have h2 := fun W A' h h' => join_any A A' c 1 n 1 l [(s, k, k)] hn rfl W h h' hbig (by omega)
  obtain ⟨L, hL⟩ : ∃ L, addL l (s, k) = L := ⟨_, rfl⟩
  obtain ⟨E, hE⟩ : ∃ E, addE l (s, k) = E := ⟨_, rfl⟩
  rw [hL, hE]
  by_cases hd : okDot (s, k)
  · rw [decide_eq_true hd] at h1
    rw [add_good hd] at hL
    rw [addE_good hd] at hE
    rw [hL, hE] at h2
    have H1 := Lib.hid h1
    have H2 := Lib.hid h2
    have HR := Lib.hid hr
    have hb1 := (Below.refl w.heap.size w).alloc (Nat.le_refl _) (.cells #[.int .i64 s, .int .i64 k] 33)
    have q0 : (w.alloc (.cells #[.int .i64 s, .int .i64 k] 33)).cell? ⟨w.heap.size, 0, none⟩ = some (.int .i64 s) := by simp
    have q1 : (w.alloc (.cells #[.int .i64 s, .int .i64 k] 33)).cell? ⟨w.heap.size, 1, none⟩ = some (.int .i64 k) := by simp
    have sA : w.heap.size < (w.alloc (.cells #[.int .i64 s, .int .i64 k] 33)).heap.size := by simp
    obtain ⟨W, hW⟩ : ∃ W, w.alloc (.cells #[.int .i64 s, .int .i64 k] 33) = W := ⟨_, rfl⟩
    rw [hW] at hb1 q0 q1 sA
    clear h1 h2 hr hL hE hd hn
    go_enter Try.func26, Try.ntmps26
    go_wp2_with fail
    refine (H1.out _).mono ?_
    rintro e w1 ⟨rfl, b1⟩
    have s1 := b1.size
    have r0 := cell_below b1 sA q0
    have r1 := cell_below b1 sA q1
    have hb2 := hb1.trans (b1.mono (Nat.le_of_lt sA))
    obtain ⟨W2, hW2⟩ : ∃ W2, w1.alloc (.cells #[.int .i64 s, .int .i64 k, .int .i64 k] 52) = W2 := ⟨_, rfl⟩
    have hb3 := hb2.alloc hb2.size (.cells #[.int .i64 s, .int .i64 k, .int .i64 k] 52)
    have hS : Ss (w1.alloc (.cells #[.int .i64 s, .int .i64 k, .int .i64 k] 52)) (w1.alloc (.cells #[.int .i64 s, .int .i64 k, .int .i64 k] 52)).heap.size (some ⟨w1.heap.size, 0, none⟩) [(s, k, k)] := fun _ =>
      ⟨w1.heap.size, 0, rfl, by simp, fun j hj => by
        obtain rfl : j = 0 := by simp at hj; omega
        exact ⟨by simp, by simp, by simp⟩⟩
    rw [hW2] at hb3 hS
    clear hW b1 q0 q1
    go_wp2_with fail
    refine (H2.out W2 (some ⟨w1.heap.size, 0, none⟩) ((HR.out.below hb3).more hb3.size) hS).mono ?_
    rintro e w3 ⟨A3, c3, rfl, o3, b3⟩
    have HO := Lib.hid (own_base o3 hb3.size)
    have HB := Lib.hid (hb3.trans (b3.mono hb3.size))
    clear o3 b3 H1 H2 hS
    go_wp2
    go_ret2
    exact ⟨A3, c3, rfl, HO.out, HB.out⟩
  · rw [decide_eq_false hd] at h1
    have hw := add_wrong (l := l) hd
    have HW := Lib.hid (And.intro (hL.symm.trans hw.2) (hE.symm.trans hw.1))
    have H1 := Lib.hid h1
    have hb1 := (Below.refl w.heap.size w).alloc (Nat.le_refl _) (.cells #[.int .i64 s, .int .i64 k] 33)
    have sA : w.heap.size < (w.alloc (.cells #[.int .i64 s, .int .i64 k] 33)).heap.size := by simp
    obtain ⟨W, hW⟩ : ∃ W, w.alloc (.cells #[.int .i64 s, .int .i64 k] 33) = W := ⟨_, rfl⟩
    have q0 : (w.alloc (.cells #[.int .i64 s, .int .i64 k] 33)).cell? ⟨w.heap.size, 0, none⟩ = some (.int .i64 s) := by simp
    have q1 : (w.alloc (.cells #[.int .i64 s, .int .i64 k] 33)).cell? ⟨w.heap.size, 1, none⟩ = some (.int .i64 k) := by simp
    rw [hW] at hb1 sA q0 q1
    clear h1 h2 hr hL hE hd hn hw
    go_enter Try.func26, Try.ntmps26
    go_wp2_with fail
    refine (H1.out _).mono ?_
    rintro e w1 ⟨rfl, b1⟩
    have hb2 := Lib.hid (hb1.trans (b1.mono (Nat.le_of_lt sA)))
    clear b1 hb1
    go_wp2
    go_ret2
    rw [HW.out.1, HW.out.2]
    exact joinPost_nil _ _ _ hb2.out _ rfl

set_option maxHeartbeats 1000000 in
theorem ref_add_any (A : Option Addr) (c n : Nat) (l : List Sp) (hn : l.length = n) (s k : Int) (w : World) (hr : Ss w w.heap.size A l) (hbig : n ≤ 140737488355328) :
    Calls Try.prog 27 #[.slice A n c, .agg #[.int .i64 s, .int .i64 k]] w (JoinPost (addL l (s, k)) (addE l (s, k)) w) := by
  have h1 := refDot_is (s, k)
  have h2 := fun W A' h h' => ref_join_any A A' c 1 n 1 l [(s, k, k)] hn rfl W h h' hbig (by omega)
  obtain ⟨L, hL⟩ : ∃ L, addL l (s, k) = L := ⟨_, rfl⟩
  obtain ⟨E, hE⟩ : ∃ E, addE l (s, k) = E := ⟨_, rfl⟩
  rw [hL, hE]
  by_cases hd : okDot (s, k)
  · rw [decide_eq_true hd] at h1
    rw [add_good hd] at hL
    rw [addE_good hd] at hE
    rw [hL, hE] at h2
    have H1 := Lib.hid h1
    have H2 := Lib.hid h2
    have HR := Lib.hid hr
    have hb1 := (Below.refl w.heap.size w).alloc (Nat.le_refl _) (.cells #[.int .i64 s, .int .i64 k] 33)
    have q0 : (w.alloc (.cells #[.int .i64 s, .int .i64 k] 33)).cell? ⟨w.heap.size, 0, none⟩ = some (.int .i64 s) := by simp
    have q1 : (w.alloc (.cells #[.int .i64 s, .int .i64 k] 33)).cell? ⟨w.heap.size, 1, none⟩ = some (.int .i64 k) := by simp
    have sA : w.heap.size < (w.alloc (.cells #[.int .i64 s, .int .i64 k] 33)).heap.size := by simp
    obtain ⟨W, hW⟩ : ∃ W, w.alloc (.cells #[.int .i64 s, .int .i64 k] 33) = W := ⟨_, rfl⟩
    rw [hW] at hb1 q0 q1 sA
    clear h1 h2 hr hL hE hd hn
    go_enter Try.func27, Try.ntmps27
    go_wp2_with fail
    refine (H1.out _).mono ?_
    rintro e w1 ⟨rfl, b1⟩
    have s1 := b1.size
    have r0 := cell_below b1 sA q0
    have r1 := cell_below b1 sA q1
    have hb2 := hb1.trans (b1.mono (Nat.le_of_lt sA))
    obtain ⟨W2, hW2⟩ : ∃ W2, w1.alloc (.cells #[.int .i64 s, .int .i64 k, .int .i64 k] 52) = W2 := ⟨_, rfl⟩
    have hb3 := hb2.alloc hb2.size (.cells #[.int .i64 s, .int .i64 k, .int .i64 k] 52)
    have hS : Ss (w1.alloc (.cells #[.int .i64 s, .int .i64 k, .int .i64 k] 52)) (w1.alloc (.cells #[.int .i64 s, .int .i64 k, .int .i64 k] 52)).heap.size (some ⟨w1.heap.size, 0, none⟩) [(s, k, k)] := fun _ =>
      ⟨w1.heap.size, 0, rfl, by simp, fun j hj => by
        obtain rfl : j = 0 := by simp at hj; omega
        exact ⟨by simp, by simp, by simp⟩⟩
    rw [hW2] at hb3 hS
    clear hW b1 q0 q1
    go_wp2_with fail
    refine (H2.out W2 (some ⟨w1.heap.size, 0, none⟩) ((HR.out.below hb3).more hb3.size) hS).mono ?_
    rintro e w3 ⟨A3, c3, rfl, o3, b3⟩
    have HO := Lib.hid (own_base o3 hb3.size)
    have HB := Lib.hid (hb3.trans (b3.mono hb3.size))
    clear o3 b3 H1 H2 hS
    go_wp2
    go_ret2
    exact ⟨A3, c3, rfl, HO.out, HB.out⟩
  · rw [decide_eq_false hd] at h1
    have hw := add_wrong (l := l) hd
    have HW := Lib.hid (And.intro (hL.symm.trans hw.2) (hE.symm.trans hw.1))
    have H1 := Lib.hid h1
    have hb1 := (Below.refl w.heap.size w).alloc (Nat.le_refl _) (.cells #[.int .i64 s, .int .i64 k] 33)
    have sA : w.heap.size < (w.alloc (.cells #[.int .i64 s, .int .i64 k] 33)).heap.size := by simp
    obtain ⟨W, hW⟩ : ∃ W, w.alloc (.cells #[.int .i64 s, .int .i64 k] 33) = W := ⟨_, rfl⟩
    have q0 : (w.alloc (.cells #[.int .i64 s, .int .i64 k] 33)).cell? ⟨w.heap.size, 0, none⟩ = some (.int .i64 s) := by simp
    have q1 : (w.alloc (.cells #[.int .i64 s, .int .i64 k] 33)).cell? ⟨w.heap.size, 1, none⟩ = some (.int .i64 k) := by simp
    rw [hW] at hb1 sA q0 q1
    clear h1 h2 hr hL hE hd hn hw
    go_enter Try.func27, Try.ntmps27
    go_wp2_with fail
    refine (H1.out _).mono ?_
    rintro e w1 ⟨rfl, b1⟩
    have hb2 := Lib.hid (hb1.trans (b1.mono (Nat.le_of_lt sA)))
    clear b1 hb1
    go_wp2
    go_ret2
    rw [HW.out.1, HW.out.2]
    exact joinPost_nil _ _ _ hb2.out _ rfl
end Span
end Go.Proofs.Ytpgpeigaoonpcab
