/-
  The document's Take. Written by gen18/rtake.py out of gen18/take.py.
-/
import Derived.Test.YtiempgabamheiaaInboxReady
import Derived.Test.YtiempgabamheiaaOwnRec
namespace Go.Proofs.Ytiempgabamheiaa
namespace Inbox
open Go.RowKit Vers Span Blk
attribute [local go_sem ↓] Go.wp_at_zero Go.wp_at_succ
theorem info_rfar : (Try.prog.info? 41).map (fun i => (i.zero, i.size, i.bytes)) = some (some (.agg #[.int .i64 0, .int .i64 0, .string ⟨#[]⟩, .slice none 0 0, .slice none 0 0]), 5, 80) := by kernel_rfl

set_option maxRecDepth 100000 in
set_option maxHeartbeats 4000000 in
theorem rtake_any {F : Nat → Prop} {w : World} {nb : Nat} {room : Int} {P : List Fr} (h : IN 29 41 F w nb room P) (hP : ∀ y ∈ P, okF y) (hPl : P.length ≤ 1759218604390) (fr sq : Int) (key : ByteArray) (Av : Option Addr) (cv m : Nat) (lv : List Vr) (hm : lv.length = m) (Ar : Option Addr) (cr kr : Nat) (rt : List Int) (hkr : rt.length = kr) (hz : SzF ((fr, sq), (key, lv), rt)) (hv : Vs w 0 w.heap.size Av lv) (hr : Ns .i64 w w.heap.size Ar rt)
    (A : Option Addr) (c n : Nat) (v : List Int) (hn : v.length = n) (hbig : n ≤ 140737488355328) (hvv : Ns .i64 w w.heap.size A v) :
    Calls Try.prog 12 #[hd nb, .agg #[.int .i64 fr, .int .i64 sq, .string key, .slice Av m cv, .slice Ar kr cr], .slice A n c] w (TakePost 29 41 F nb room P v ((fr, sq), (key, lv), rt) w) := by
  obtain ⟨Aw, cw, nw, l, e, hS⟩ := h
  have hlP : nw = P.length := by rw [← e, List.length_map]; exact hS.2.1.1.symm
  obtain ⟨U, hU⟩ : ∃ U, w.alloc (.cells #[.int .i64 fr, .int .i64 sq, .string key, .slice Av m cv, .slice Ar kr cr] 41) = U := ⟨_, rfl⟩
  have bU : Below w.heap.size w U := by rw [← hU]; exact (Below.refl _ w).alloc (Nat.le_refl _) _
  have BU : Bn w.heap.size 41 [.int .i64 fr, .int .i64 sq, .string key, .slice Av m cv, .slice Ar kr cr] U := by rw [← hU]; exact heap_alloc_new w _
  have u0 := BU.cell 0
  have u1 := BU.cell 1
  have u2 := BU.cell 2
  have u3 := BU.cell 3
  have u4 := BU.cell 4
  simp only [List.getElem?_cons_zero, List.getElem?_cons_succ] at u0 u1 u2 u3 u4
  have HR := Lib.hid (Code.refrecord_any Av cv m key lv hm (by have := hz.2.1; simp only at this; omega) hz.1 U ((hv.below bU).more bU.size))
  have HIN : Hid (∀ W c', takeF room P v ((fr, sq), (key, lv), rt) = (c', P) → Below w.heap.size w W → TakePost 29 41 F nb room P v ((fr, sq), (key, lv), rt) w (.returned (.int .i64 c')) W) := Lib.hid fun W c' h1 hb => ⟨F, by rw [h1], Lib.hid ⟨by rw [h1]; exact ⟨Aw, cw, nw, l, e, hS.below hb⟩, Stp.of_below hb⟩⟩
  have HB := Lib.hid (And.intro bU BU)
  have HX := Lib.hid (And.intro hv (And.intro hr (And.intro hvv (And.intro hm (And.intro hkr (And.intro hz hn))))))
  have HS := Lib.hid (And.intro hS (And.intro e (And.intro hP hlP)))
  have hnw : nw ≤ 1759218604390 := by omega
  clear hlP
  by_cases hok : okF ((fr, sq), (key, lv), rt)
  · obtain ⟨hm1, hov⟩ := ok_one hok
    obtain rfl : m = 1 := by omega
    have hdec : decide (Code.okR (key, lv)) = true := decide_eq_true hok.1
    rw [hdec] at HR
    obtain ⟨y, hy⟩ : ∃ y, lv.getD 0 v0 = y := ⟨_, rfl⟩
    have HD : Hid (∀ V, Below w.heap.size w V → Calls Try.prog 37 #[.agg #[.int .i64 fr, .int .i64 sq, .string key, .slice Av 1 cv, .slice Ar kr cr]] V (fun e w' => e = .returned (.agg #[.int .i64 y.s, .int .i64 y.n]) ∧ Below V.heap.size V w')) := Lib.hid fun V hV => by
      rw [← hy]
      exact rdot_any fr sq key Av cv 1 lv hm1 (Nat.le_refl _) Ar kr cr V ((hv.below hV).more hV.size)
    obtain ⟨q, hq⟩ : ∃ q, decide (Vect.CoversV v y.s y.n) = q := ⟨_, rfl⟩
    have HC : Hid (∀ V, Below w.heap.size w V → Calls Try.prog 23 #[.slice A n c, .agg #[.int .i64 y.s, .int .i64 y.n]] V (fun e w' => e = .returned (.bool q) ∧ Below V.heap.size V w')) := Lib.hid fun V hV => by
      rw [← hq]
      exact Vect.ref_covers_any A c n v hn y.s y.n (by have := hov.1; rw [hy] at this; unfold okD at this; omega) V ((hvv.below hV).more hV.size) hbig
    have HQ : Hid (covF v ((fr, sq), (key, lv), rt) ↔ q = true) := Lib.hid (by rw [← hq, decide_eq_true_iff, ← hy]; exact Iff.rfl)
    obtain ⟨qm, hqm⟩ : ∃ q, decide (mayV v y) = q := ⟨_, rfl⟩
    have HM : Hid (∀ V, Below w.heap.size w V → Calls Try.prog 38 #[.agg #[.int .i64 fr, .int .i64 sq, .string key, .slice Av 1 cv, .slice Ar kr cr], .slice A n c] V (fun e w' => e = .returned (.bool qm) ∧ Below V.heap.size V w')) := Lib.hid fun V hV => by
      rw [← hqm, ← hy]
      exact rmay_any fr sq key Av cv 1 lv hm1 (Nat.le_refl _) hov Ar kr cr A c n v hn hbig V ((hv.below hV).more hV.size) ((hvv.below hV).more hV.size)
    have HMQ : Hid (mayF v ((fr, sq), (key, lv), rt) ↔ qm = true) := Lib.hid (by rw [← hqm, decide_eq_true_iff, ← hy]; exact Iff.rfl)
    have HOWN : Hid (∀ V, Below w.heap.size w V → Calls Try.prog 29 #[.agg #[.string key, .slice Av 1 cv]] V (Own.NewRr key lv 1 V)) := Lib.hid fun V hV => Own.own_any key Av cv 1 lv hm1 (by omega) (fun z hzz => by
      obtain ⟨⟨_, _, _, ⟨h1, _⟩, _⟩, _⟩ := hok
      have := past_le (h1 z hzz)
      omega) V ((hv.below hV).more hV.size)
    obtain ⟨s, hs⟩ : ∃ s, y.s = s := ⟨_, rfl⟩
    obtain ⟨vn, hvn⟩ : ∃ s, y.n = s := ⟨_, rfl⟩
    rw [hs, hvn] at HD HC
    have HY := Lib.hid (And.intro hok (And.intro hs (And.intro hvn hy)))
    clear hs hvn hy hq hqm hok hov hdec hv hr hvv hm hkr hz hn hS e hP hm1 bU BU
    go_enter Try.func12, Try.ntmps12
    go_wp2_with fail
    refine HR.out.mono ?_
    rintro e w2 ⟨rfl, b2⟩
    have bw2 : Below w.heap.size w w2 := HB.out.1.trans (b2.mono HB.out.1.size)
    have B2 := HB.out.2.same (b2.block _ HB.out.2.lt)
    have x0 := (B2.cell 0).trans rfl
    have x1 := (B2.cell 1).trans rfl
    have x2 := (B2.cell 2).trans rfl
    have x3 := (B2.cell 3).trans rfl
    have x4 := (B2.cell 4).trans rfl
    have H2 := Lib.hid (And.intro bw2 B2)
    clear b2 bw2 B2 HR
    go_wp2_with fail
    refine (HD.out w2 H2.out.1).mono ?_
    rintro e w3 ⟨rfl, b3⟩
    have H3 := Lib.hid (And.intro (H2.out.1.trans (b3.mono H2.out.1.size)) (H2.out.2.same (b3.block _ H2.out.2.lt)))
    clear b3
    go_wp2_with fail
    refine (HC.out w3 H3.out.1).mono ?_
    rintro e w4 ⟨rfl, b4⟩
    have H4 := Lib.hid (And.intro (H3.out.1.trans (b4.mono H3.out.1.size)) (H3.out.2.same (b4.block _ H3.out.2.lt)))
    clear b4
    cases q
    · have z1 := ((HS.out.1.below H4.out.1).1.1.cell 1).trans rfl
      have z0 := ((HS.out.1.below H4.out.1).1.1.cell 0).trans rfl
      have hcov : ¬ covF v ((fr, sq), (key, lv), rt) := fun h => absurd (HQ.out.1 h) (by simp)
      have HNC := Lib.hid hcov
      have HI0 : Hid (Below w.heap.size w w4 ∧ Bn w.heap.size 41 [.int .i64 fr, .int .i64 sq, .string key, .slice Av 1 cv, .slice Ar kr cr] w4 ∧ ∀ y ∈ P.take 0, ¬ sdot y ((fr, sq), (key, lv), rt)) := Lib.hid ⟨H4.out.1, H4.out.2, by simp⟩
      clear hcov
      go_wp2_with fail
      go_loopw [7] (fun q wr => ∃ j : Nat, q = .int .i64 j ∧ j ≤ nw ∧ Hid (Below w.heap.size w wr ∧ Bn w.heap.size 41 [.int .i64 fr, .int .i64 sq, .string key, .slice Av 1 cv, .slice Ar kr cr] wr ∧ ∀ y ∈ P.take j, ¬ sdot y ((fr, sq), (key, lv), rt))) (fun q _ => nw - (intOf q).toNat)
      case atStart => exact ⟨0, rfl, by omega, HI0⟩
      case round =>
        clear HI0
        obtain ⟨j, rfl, hj, hst⟩ := hrel
        have yn := ((HS.out.1.below hst.out.1).1.1.cell 1).trans rfl
        by_cases hlt : j < nw
        · obtain ⟨x, hx⟩ : ∃ x, l[j]? = some x := ⟨l[j]'(by have := HS.out.1.2.1.1; omega), by simp⟩
          have hPx : P[j]? = some x.1 := by rw [← HS.out.2.1, List.getElem?_map, hx]; rfl
          have hxm : x.1 ∈ P := List.mem_of_getElem? hPx
          have hxo := HS.out.2.2.1 _ hxm
          obtain ⟨g, rfl, hgl, hcl, hsz1, hv1, _⟩ := (HS.out.1.below hst.out.1).at hx
          obtain ⟨⟨⟨f1, f2⟩, ⟨k1, v1⟩, rr⟩, ⟨a1, c1⟩, ⟨a2, c2⟩⟩ := x
          obtain ⟨hv11, _⟩ := ok_one hxo
          obtain ⟨r1, hr1⟩ : ∃ r, rr.length = r := ⟨_, rfl⟩
          have q0 : wr.cell? ⟨g, j * 5, none⟩ = some (.int .i64 f1) := hcl 0 _ rfl
          have q1 : wr.cell? ⟨g, j * 5 + 1, none⟩ = some (.int .i64 f2) := hcl 1 _ rfl
          have q2 : wr.cell? ⟨g, j * 5 + 2, none⟩ = some (.string k1) := hcl 2 _ rfl
          have q3 : wr.cell? ⟨g, j * 5 + 3, none⟩ = some (.slice a1 1 c1) := by rw [← hv11]; exact hcl 3 _ rfl
          have q4 : wr.cell? ⟨g, j * 5 + 4, none⟩ = some (.slice a2 r1 c2) := by rw [← hr1]; exact hcl 4 _ rfl
          have d1 : (0 : Int) ≤ (j : Int) := by omega
          have d2 : (j : Int) < (nw : Int) := by omega
          have y1 := ((HS.out.1.below hst.out.1).1.1.cell 1).trans rfl
          have BNb := (HS.out.1.below hst.out.1).1.1
          obtain ⟨s1, hs1⟩ : ∃ s, (v1.getD 0 v0).s = s := ⟨_, rfl⟩
          obtain ⟨n1, hn1⟩ : ∃ s, (v1.getD 0 v0).n = s := ⟨_, rfl⟩
          have HD1 : Hid (∀ V, Below wr.heap.size wr V → Calls Try.prog 37 #[.agg #[.int .i64 f1, .int .i64 f2, .string k1, .slice a1 1 c1, .slice a2 r1 c2]] V (fun e w' => e = .returned (.agg #[.int .i64 s1, .int .i64 n1]) ∧ Below V.heap.size V w')) := Lib.hid fun V hV => by
            rw [← hs1, ← hn1]
            exact rdot_any f1 f2 k1 a1 c1 1 v1 hv11 (Nat.le_refl _) a2 r1 c2 V ((hv1.below hV).more hV.size)
          have HD0 : Hid (∀ V, Below wr.heap.size wr V → Calls Try.prog 37 #[.agg #[.int .i64 fr, .int .i64 sq, .string key, .slice Av 1 cv, .slice Ar kr cr]] V (fun e w' => e = .returned (.agg #[.int .i64 s, .int .i64 vn]) ∧ Below V.heap.size V w')) := Lib.hid fun V hV => HD.out V (hst.out.1.trans (hV.mono hst.out.1.size))
          have HSW : Hid (∀ V, Below wr.heap.size wr V → Below wr.heap.size wr V ∧ V.cell? ⟨w.heap.size, 0, none⟩ = some (.int .i64 fr) ∧ V.cell? ⟨w.heap.size, 1, none⟩ = some (.int .i64 sq) ∧ V.cell? ⟨w.heap.size, 2, none⟩ = some (.string key) ∧ V.cell? ⟨w.heap.size, 3, none⟩ = some (.slice Av 1 cv) ∧ V.cell? ⟨w.heap.size, 4, none⟩ = some (.slice Ar kr cr) ∧ V.cell? ⟨nb, 1, none⟩ = some (.slice (some ⟨g, 0, none⟩) nw cw) ∧ V.cell? ⟨g, j * 5, none⟩ = some (.int .i64 f1) ∧ V.cell? ⟨g, j * 5 + 1, none⟩ = some (.int .i64 f2) ∧ V.cell? ⟨g, j * 5 + 2, none⟩ = some (.string k1) ∧ V.cell? ⟨g, j * 5 + 3, none⟩ = some (.slice a1 1 c1) ∧ V.cell? ⟨g, j * 5 + 4, none⟩ = some (.slice a2 r1 c2)) := Lib.hid fun V hV => by
            have g1 := hst.out.2.1.same (hV.block _ hst.out.2.1.lt)
            have g2 := BNb.same (hV.block _ BNb.lt)
            exact ⟨hV, (g1.cell 0).trans rfl, (g1.cell 1).trans rfl, (g1.cell 2).trans rfl, (g1.cell 3).trans rfl, (g1.cell 4).trans rfl, (g2.cell 1).trans rfl, (hV.cell (p := ⟨g, j * 5, none⟩) hgl).trans q0, (hV.cell (p := ⟨g, j * 5 + 1, none⟩) hgl).trans q1, (hV.cell (p := ⟨g, j * 5 + 2, none⟩) hgl).trans q2, (hV.cell (p := ⟨g, j * 5 + 3, none⟩) hgl).trans q3, (hV.cell (p := ⟨g, j * 5 + 4, none⟩) hgl).trans q4⟩
          obtain ⟨qe, hqe⟩ : ∃ q, eqD (s1, n1) (s, vn) = q := ⟨_, rfl⟩
          have rEQ := run_eqD s1 n1 s vn qe hqe
          have hsd : sdot ((f1, f2), (k1, v1), rr) ((fr, sq), (key, lv), rt) ↔ qe = true := by
            rw [← hqe, eqD_iff]
            unfold sdot vr
            simp only
            rw [hs1, hn1, HY.out.2.2.2, HY.out.2.1, HY.out.2.2.1]
          have hnext : ∀ y ∈ P.take (j + 1), y ∈ P.take j ∨ y = ((f1, f2), (k1, v1), rr) := fun y hy => by
            obtain ⟨hjl, hje⟩ := List.getElem?_eq_some_iff.1 hPx
            rw [List.take_succ_eq_append_getElem hjl, hje] at hy
            rcases List.mem_append.1 hy with h | h
            · exact .inl h
            · exact .inr (List.mem_singleton.1 h)
          have HJ := Lib.hid (And.intro hst.out.1 (And.intro hst.out.2.1 (And.intro hsd (And.intro hnext hxm))))
          clear hs1 hn1 hqe hsd hnext hx hPx hxm hxo hcl hsz1 hv1 hv11 hr1 BNb
          go_wp2_with fail
          refine wp_region_held_drew (S := (fun V => Below wr.heap.size wr V ∧ V.cell? ⟨w.heap.size, 0, none⟩ = some (.int .i64 fr) ∧ V.cell? ⟨w.heap.size, 1, none⟩ = some (.int .i64 sq) ∧ V.cell? ⟨w.heap.size, 2, none⟩ = some (.string key) ∧ V.cell? ⟨w.heap.size, 3, none⟩ = some (.slice Av 1 cv) ∧ V.cell? ⟨w.heap.size, 4, none⟩ = some (.slice Ar kr cr) ∧ V.cell? ⟨nb, 1, none⟩ = some (.slice (some ⟨g, 0, none⟩) nw cw) ∧ V.cell? ⟨g, j * 5, none⟩ = some (.int .i64 f1) ∧ V.cell? ⟨g, j * 5 + 1, none⟩ = some (.int .i64 f2) ∧ V.cell? ⟨g, j * 5 + 2, none⟩ = some (.string k1) ∧ V.cell? ⟨g, j * 5 + 3, none⟩ = some (.slice a1 1 c1) ∧ V.cell? ⟨g, j * 5 + 4, none⟩ = some (.slice a2 r1 c2))) (by kernel_rfl) (HSW.out _ (Below.refl _ wr).drew) (fun hHeld => ?_)
          refine wpAnyH_take (i := 0) (oi := { dst := some 32, op := Op.move (Operand.tmp 0), type := 26, pos := "ref.go:37", after := #[], guard := none }) (v := ?ve_1) rfl (by kernel_rfl) (by kernel_rfl) (by kernel_rfl) (fun _ _ _ h => h) (Or.inl ⟨by rfl, ?hye_1⟩) (by assumption) ?reste_1
          case hye_1 =>
            intro w hSw
            (try dsimp only at hSw)
            go_simp
            (try with_reducible rfl)
          (try simp only [Act.put, List.setIfInBounds_toArray, List.set_cons_zero, List.set_cons_succ])
          refine wpAnyH_take (i := 1) (oi := { dst := some 33, op := Op.nilCheck (Operand.tmp 32), type := 0, pos := "ref.go:37", after := #[{ on := 0, ground := Ground.data }], guard := none }) (v := ?ve_2) rfl (by kernel_rfl) (by kernel_rfl) (by kernel_rfl) (fun _ _ _ h => h) (Or.inl ⟨by rfl, ?hye_2⟩) (by assumption) ?reste_2
          case hye_2 =>
            intro w hSw
            (try dsimp only at hSw)
            go_simp
            (try with_reducible rfl)
          (try simp only [Act.put, List.setIfInBounds_toArray, List.set_cons_zero, List.set_cons_succ])
          refine wpAnyH_take (i := 2) (oi := { dst := some 34, op := Op.fieldAddr 29 (Operand.tmp 33) 1, type := 0, pos := "ref.go:37", after := #[{ on := 1, ground := Ground.data }], guard := none }) (v := ?ve_3) rfl (by kernel_rfl) (by kernel_rfl) (by kernel_rfl) (fun _ _ _ h => h) (Or.inl ⟨by rfl, ?hye_3⟩) (by assumption) ?reste_3
          case hye_3 =>
            intro w hSw
            (try dsimp only at hSw)
            go_simp
            (try with_reducible rfl)
          (try simp only [Act.put, List.setIfInBounds_toArray, List.set_cons_zero, List.set_cons_succ])
          refine wpAnyH_take (i := 3) (oi := { dst := some 35, op := Op.load 27 (Operand.tmp 34), type := 27, pos := "ref.go:37", after := #[{ on := 2, ground := Ground.data }], guard := none }) (v := ?ve_4) rfl (by kernel_rfl) (by kernel_rfl) (by kernel_rfl) (fun _ _ _ h => h) (Or.inl ⟨by rfl, ?hye_4⟩) (by assumption) ?reste_4
          case hye_4 =>
            intro w hSw
            (try dsimp only at hSw)
            go_simp
            (try with_reducible rfl)
          (try simp only [Act.put, List.setIfInBounds_toArray, List.set_cons_zero, List.set_cons_succ])
          refine wpAnyH_take (i := 4) (oi := { dst := some 36, op := Op.move (Operand.tmp 7), type := 3, pos := "ref.go:37", after := #[], guard := none }) (v := ?ve_5) rfl (by kernel_rfl) (by kernel_rfl) (by kernel_rfl) (fun _ _ _ h => h) (Or.inl ⟨by rfl, ?hye_5⟩) (by assumption) ?reste_5
          case hye_5 =>
            intro w hSw
            (try dsimp only at hSw)
            go_simp
            (try with_reducible rfl)
          (try simp only [Act.put, List.setIfInBounds_toArray, List.set_cons_zero, List.set_cons_succ])
          refine wpAnyH_take (i := 5) (oi := { dst := some 37, op := Op.indexAddr 27 (Operand.tmp 35) (Operand.tmp 36), type := 0, pos := "ref.go:37", after := #[{ on := 3, ground := Ground.data }, { on := 4, ground := Ground.data }], guard := none }) (v := ?ve_6) rfl (by kernel_rfl) (by kernel_rfl) (by kernel_rfl) (fun _ _ _ h => h) (Or.inl ⟨by rfl, ?hye_6⟩) (by assumption) ?reste_6
          case hye_6 =>
            intro w hSw
            (try dsimp only at hSw)
            go_simp
            (try with_reducible rfl)
          (try simp only [Act.put, List.setIfInBounds_toArray, List.set_cons_zero, List.set_cons_succ])
          refine wpAnyH_take (i := 6) (oi := { dst := some 38, op := Op.load 41 (Operand.tmp 37), type := 41, pos := "ref.go:37", after := #[{ on := 5, ground := Ground.data }], guard := none }) (v := ?ve_7) rfl (by kernel_rfl) (by kernel_rfl) (by kernel_rfl) (fun _ _ _ h => h) (Or.inl ⟨by rfl, ?hye_7⟩) (by assumption) ?reste_7
          case hye_7 =>
            intro w hSw
            (try dsimp only at hSw)
            go_simp
            (try with_reducible rfl)
          (try simp only [Act.put, List.setIfInBounds_toArray, List.set_cons_zero, List.set_cons_succ])
          refine wpAnyH_take (i := 8) (oi := { dst := some 40, op := Op.load 41 (Operand.tmp 4), type := 41, pos := "ref.go:37", after := #[], guard := none }) (v := ?ve_8) rfl (by kernel_rfl) (by kernel_rfl) (by kernel_rfl) (fun _ _ _ h => h) (Or.inl ⟨by rfl, ?hye_8⟩) (by assumption) ?reste_8
          case hye_8 =>
            intro w hSw
            (try dsimp only at hSw)
            go_simp
            (try with_reducible rfl)
          (try simp only [Act.put, List.setIfInBounds_toArray, List.set_cons_zero, List.set_cons_succ])
          refine wpAnyH_ready (rs := [7]) (by kernel_rfl) (by simp) ?_
          refine AllReadyH.cons (o := { dst := some 39, op := Op.call { callee := Callee.value (Operand.func 37), args := #[Operand.tmp 38], argTypes := #[41] }, type := 56, pos := "ref.go:37", after := #[{ on := 6, ground := Ground.data }], guard := none }) rfl (fun K hK => ?_) AllReadyH.nil
          go_simp
          (go_at_call 37; refine (HD1.out _ hHeld.1).mono ?_; rintro e6 w6 ⟨rfl, b6⟩; have hb6 : Below wr.heap.size wr w6 := hHeld.1.trans (b6.mono hHeld.1.size))
          go_wp2_with fail
          refine hK.out _ _ (HSW.out _ hb6) (fun hHeld => ?_)
          clear hK K
          (try simp only [Act.put, List.setIfInBounds_toArray, List.set_cons_zero, List.set_cons_succ])
          refine wpAnyH_ready (rs := [9]) (by kernel_rfl) (by simp) ?_
          refine AllReadyH.cons (o := { dst := some 41, op := Op.call { callee := Callee.value (Operand.func 37), args := #[Operand.tmp 40], argTypes := #[41] }, type := 56, pos := "ref.go:37", after := #[{ on := 8, ground := Ground.data }, { on := 7, ground := Ground.chain }], guard := none }) rfl (fun K hK => ?_) AllReadyH.nil
          go_simp
          (go_at_call 37; refine (HD0.out _ hHeld.1).mono ?_; rintro e7 w7 ⟨rfl, b7⟩; have hb7 : Below wr.heap.size wr w7 := hHeld.1.trans (b7.mono hHeld.1.size))
          go_wp2_with fail
          refine hK.out _ _ (HSW.out _ hb7) (fun hHeld => ?_)
          clear hK K
          (try simp only [Act.put, List.setIfInBounds_toArray, List.set_cons_zero, List.set_cons_succ])
          refine wpAnyH_take (i := 10) (oi := { dst := some 42, op := Op.binOp BinOp.eql 56 (Operand.tmp 39) (Operand.tmp 41) 56, type := 4, pos := "ref.go:37", after := #[{ on := 7, ground := Ground.data }, { on := 9, ground := Ground.data }], guard := none }) (v := ?ve_9) rfl (by kernel_rfl) (by kernel_rfl) (by kernel_rfl) (fun _ _ _ h => h) (Or.inl ⟨by rfl, ?hye_9⟩) (by assumption) ?reste_9
          case hye_9 =>
            intro w hSw
            (try dsimp only at hSw)
            go_simp
            (try with_reducible rfl)
          (try simp only [Act.put, List.setIfInBounds_toArray, List.set_cons_zero, List.set_cons_succ])
          refine wpAnyH_done (by kernel_rfl) ?_ _
          have hb7w : Below w.heap.size w w7 := HJ.out.1.trans (hb7.mono HJ.out.1.size)
          have BF7 := HJ.out.2.1.same (hb7.block _ HJ.out.2.1.lt)
          cases qe
          · have HN : Hid (Below w.heap.size w w7 ∧ Bn w.heap.size 41 [.int .i64 fr, .int .i64 sq, .string key, .slice Av 1 cv, .slice Ar kr cr] w7 ∧ ∀ y ∈ P.take (j + 1), ¬ sdot y ((fr, sq), (key, lv), rt)) := Lib.hid ⟨hb7w, BF7, fun y hy => by
              rcases HJ.out.2.2.2.1 y hy with h | h
              · exact hst.out.2.2 y h
              · rw [h, HJ.out.2.2.1]
                simp⟩
            clear hb7w BF7 HJ
            go_wp2_with fail
            go_roundw
            case rel => exact ⟨j + 1, rfl, by omega, HN⟩
            case measure => simp only [intOf]; omega
          · have HT := Lib.hid (HIN.out w7 3 (take_twice HY.out.1 HNC.out ⟨_, HJ.out.2.2.2.2, HJ.out.2.2.1.2 rfl⟩) hb7w)
            clear hb7w BF7 HJ
            go_wp2_with fail
            go_ret
            exact HT.out
        · obtain rfl : j = nw := by omega
          have hno : ¬ ∃ y ∈ P, sdot y ((fr, sq), (key, lv), rt) := fun ⟨y, h1, h2⟩ => hst.out.2.2 y (by rw [List.take_of_length_le (by have := HS.out.2.2.2; omega)]; exact h1) h2
          have HNO := Lib.hid hno
          have hSr := (HS.out.1.below hst.out.1).1.1
          have z0 := (hSr.cell 0).trans rfl
          have z1 := (hSr.cell 1).trans rfl
          have x0 := (hst.out.2.1.cell 0).trans rfl
          have x1 := (hst.out.2.1.cell 1).trans rfl
          have x2 := (hst.out.2.1.cell 2).trans rfl
          have x3 := (hst.out.2.1.cell 3).trans rfl
          have x4 := (hst.out.2.1.cell 4).trans rfl
          have HSF : Hid (∀ V, Below wr.heap.size wr V → Below wr.heap.size wr V ∧ V.cell? ⟨w.heap.size, 0, none⟩ = some (.int .i64 fr) ∧ V.cell? ⟨w.heap.size, 1, none⟩ = some (.int .i64 sq) ∧ V.cell? ⟨w.heap.size, 2, none⟩ = some (.string key) ∧ V.cell? ⟨w.heap.size, 3, none⟩ = some (.slice Av 1 cv) ∧ V.cell? ⟨w.heap.size, 4, none⟩ = some (.slice Ar kr cr) ∧ V.cell? ⟨nb, 0, none⟩ = some (.int .i64 room) ∧ V.cell? ⟨nb, 1, none⟩ = some (.slice Aw j cw)) := Lib.hid fun V hV => by
            have g1 := hst.out.2.1.same (hV.block _ hst.out.2.1.lt)
            have g2 := hSr.same (hV.block _ hSr.lt)
            exact ⟨hV, (g1.cell 0).trans rfl, (g1.cell 1).trans rfl, (g1.cell 2).trans rfl, (g1.cell 3).trans rfl, (g1.cell 4).trans rfl, (g2.cell 0).trans rfl, (g2.cell 1).trans rfl⟩
          have HM1 : Hid (∀ V, Below wr.heap.size wr V → Calls Try.prog 38 #[.agg #[.int .i64 fr, .int .i64 sq, .string key, .slice Av 1 cv, .slice Ar kr cr], .slice A n c] V (fun e w' => e = .returned (.bool qm) ∧ Below V.heap.size V w')) := Lib.hid fun V hV => HM.out V (hst.out.1.trans (hV.mono hst.out.1.size))
          have hj7 : j ≤ 1759218604390 := by omega
          clear hno hSr
          by_cases hfull : room ≤ (j : Int)
          · have d3 : decide (room ≤ (j : Int)) = true := decide_eq_true hfull
            have HFU := Lib.hid hfull
            clear hfull
            cases qm
            · have HT2 := Lib.hid (take_full (room := room) (P := P) HY.out.1 HNC.out HNO.out ⟨by have := HS.out.2.2.2; have := HFU.out; omega, fun h => absurd (HMQ.out.1 h) (by simp)⟩)
              go_wp2_with fail
              refine wp_region_held_drew (S := (fun V => Below wr.heap.size wr V ∧ V.cell? ⟨w.heap.size, 0, none⟩ = some (.int .i64 fr) ∧ V.cell? ⟨w.heap.size, 1, none⟩ = some (.int .i64 sq) ∧ V.cell? ⟨w.heap.size, 2, none⟩ = some (.string key) ∧ V.cell? ⟨w.heap.size, 3, none⟩ = some (.slice Av 1 cv) ∧ V.cell? ⟨w.heap.size, 4, none⟩ = some (.slice Ar kr cr) ∧ V.cell? ⟨nb, 0, none⟩ = some (.int .i64 room) ∧ V.cell? ⟨nb, 1, none⟩ = some (.slice Aw j cw))) (by kernel_rfl) (HSF.out _ (Below.refl _ wr).drew) (fun hHeld => ?_)
              refine wpAnyH_take (i := 0) (oi := { dst := some 43, op := Op.move (Operand.tmp 0), type := 26, pos := "ref.go:41", after := #[], guard := none }) (v := ?vfa_1) rfl (by kernel_rfl) (by kernel_rfl) (by kernel_rfl) (fun _ _ _ h => h) (Or.inl ⟨by rfl, ?hyfa_1⟩) (by assumption) ?restfa_1
              case hyfa_1 =>
                intro w hSw
                (try dsimp only at hSw)
                go_simp
                (try with_reducible rfl)
              (try simp only [Act.put, List.setIfInBounds_toArray, List.set_cons_zero, List.set_cons_succ])
              refine wpAnyH_take (i := 1) (oi := { dst := some 44, op := Op.nilCheck (Operand.tmp 43), type := 0, pos := "ref.go:41", after := #[{ on := 0, ground := Ground.data }], guard := none }) (v := ?vfa_2) rfl (by kernel_rfl) (by kernel_rfl) (by kernel_rfl) (fun _ _ _ h => h) (Or.inl ⟨by rfl, ?hyfa_2⟩) (by assumption) ?restfa_2
              case hyfa_2 =>
                intro w hSw
                (try dsimp only at hSw)
                go_simp
                (try with_reducible rfl)
              (try simp only [Act.put, List.setIfInBounds_toArray, List.set_cons_zero, List.set_cons_succ])
              refine wpAnyH_take (i := 2) (oi := { dst := some 45, op := Op.fieldAddr 29 (Operand.tmp 44) 1, type := 0, pos := "ref.go:41", after := #[{ on := 1, ground := Ground.data }], guard := none }) (v := ?vfa_3) rfl (by kernel_rfl) (by kernel_rfl) (by kernel_rfl) (fun _ _ _ h => h) (Or.inl ⟨by rfl, ?hyfa_3⟩) (by assumption) ?restfa_3
              case hyfa_3 =>
                intro w hSw
                (try dsimp only at hSw)
                go_simp
                (try with_reducible rfl)
              (try simp only [Act.put, List.setIfInBounds_toArray, List.set_cons_zero, List.set_cons_succ])
              refine wpAnyH_take (i := 3) (oi := { dst := some 46, op := Op.load 27 (Operand.tmp 45), type := 27, pos := "ref.go:41", after := #[{ on := 2, ground := Ground.data }], guard := none }) (v := ?vfa_4) rfl (by kernel_rfl) (by kernel_rfl) (by kernel_rfl) (fun _ _ _ h => h) (Or.inl ⟨by rfl, ?hyfa_4⟩) (by assumption) ?restfa_4
              case hyfa_4 =>
                intro w hSw
                (try dsimp only at hSw)
                go_simp
                (try with_reducible rfl)
              (try simp only [Act.put, List.setIfInBounds_toArray, List.set_cons_zero, List.set_cons_succ])
              refine wpAnyH_take (i := 4) (oi := { dst := some 47, op := Op.call { callee := Callee.builtin Builtin.len, args := #[Operand.tmp 46], argTypes := #[27] }, type := 3, pos := "ref.go:41", after := #[{ on := 3, ground := Ground.data }], guard := none }) (v := ?vfa_5) rfl (by kernel_rfl) (by kernel_rfl) (by kernel_rfl) (fun _ _ _ h => h) (Or.inl ⟨by rfl, ?hyfa_5⟩) (by assumption) ?restfa_5
              case hyfa_5 =>
                intro w hSw
                (try dsimp only at hSw)
                go_simp
                (try with_reducible rfl)
              (try simp only [Act.put, List.setIfInBounds_toArray, List.set_cons_zero, List.set_cons_succ])
              refine wpAnyH_take (i := 5) (oi := { dst := some 48, op := Op.move (Operand.tmp 0), type := 26, pos := "ref.go:41", after := #[], guard := none }) (v := ?vfa_6) rfl (by kernel_rfl) (by kernel_rfl) (by kernel_rfl) (fun _ _ _ h => h) (Or.inl ⟨by rfl, ?hyfa_6⟩) (by assumption) ?restfa_6
              case hyfa_6 =>
                intro w hSw
                (try dsimp only at hSw)
                go_simp
                (try with_reducible rfl)
              (try simp only [Act.put, List.setIfInBounds_toArray, List.set_cons_zero, List.set_cons_succ])
              refine wpAnyH_take (i := 6) (oi := { dst := some 49, op := Op.nilCheck (Operand.tmp 48), type := 0, pos := "ref.go:41", after := #[{ on := 5, ground := Ground.data }], guard := none }) (v := ?vfa_7) rfl (by kernel_rfl) (by kernel_rfl) (by kernel_rfl) (fun _ _ _ h => h) (Or.inl ⟨by rfl, ?hyfa_7⟩) (by assumption) ?restfa_7
              case hyfa_7 =>
                intro w hSw
                (try dsimp only at hSw)
                go_simp
                (try with_reducible rfl)
              (try simp only [Act.put, List.setIfInBounds_toArray, List.set_cons_zero, List.set_cons_succ])
              refine wpAnyH_take (i := 7) (oi := { dst := some 50, op := Op.fieldAddr 29 (Operand.tmp 49) 0, type := 0, pos := "ref.go:41", after := #[{ on := 6, ground := Ground.data }], guard := none }) (v := ?vfa_8) rfl (by kernel_rfl) (by kernel_rfl) (by kernel_rfl) (fun _ _ _ h => h) (Or.inl ⟨by rfl, ?hyfa_8⟩) (by assumption) ?restfa_8
              case hyfa_8 =>
                intro w hSw
                (try dsimp only at hSw)
                go_simp
                (try with_reducible rfl)
              (try simp only [Act.put, List.setIfInBounds_toArray, List.set_cons_zero, List.set_cons_succ])
              refine wpAnyH_take (i := 8) (oi := { dst := some 51, op := Op.load 3 (Operand.tmp 50), type := 3, pos := "ref.go:41", after := #[{ on := 7, ground := Ground.data }], guard := none }) (v := ?vfa_9) rfl (by kernel_rfl) (by kernel_rfl) (by kernel_rfl) (fun _ _ _ h => h) (Or.inl ⟨by rfl, ?hyfa_9⟩) (by assumption) ?restfa_9
              case hyfa_9 =>
                intro w hSw
                (try dsimp only at hSw)
                go_simp
                (try with_reducible rfl)
              (try simp only [Act.put, List.setIfInBounds_toArray, List.set_cons_zero, List.set_cons_succ])
              refine wpAnyH_take (i := 9) (oi := { dst := some 52, op := Op.binOp BinOp.geq 3 (Operand.tmp 47) (Operand.tmp 51) 3, type := 4, pos := "ref.go:41", after := #[{ on := 4, ground := Ground.data }, { on := 8, ground := Ground.data }], guard := none }) (v := ?vfa_10) rfl (by kernel_rfl) (by kernel_rfl) (by kernel_rfl) (fun _ _ _ h => h) (Or.inl ⟨by rfl, ?hyfa_10⟩) (by assumption) ?restfa_10
              case hyfa_10 =>
                intro w hSw
                (try dsimp only at hSw)
                go_simp
                (try with_reducible rfl)
              (try simp only [Act.put, List.setIfInBounds_toArray, List.set_cons_zero, List.set_cons_succ])
              refine wpAnyH_take (i := 10) (oi := { dst := some 53, op := Op.move (Operand.tmp 52), type := 4, pos := "ref.go:41", after := #[{ on := 9, ground := Ground.data }], guard := none }) (v := ?vfa_11) rfl (by kernel_rfl) (by kernel_rfl) (by kernel_rfl) (fun _ _ _ h => h) (Or.inl ⟨by rfl, ?hyfa_11⟩) (by assumption) ?restfa_11
              case hyfa_11 =>
                intro w hSw
                (try dsimp only at hSw)
                go_simp
                (try with_reducible rfl)
              (try simp only [Act.put, List.setIfInBounds_toArray, List.set_cons_zero, List.set_cons_succ])
              refine wpAnyH_take (i := 11) (oi := { dst := some 54, op := Op.load 41 (Operand.tmp 4), type := 41, pos := "ref.go:41", after := #[{ on := 10, ground := Ground.guard }], guard := some (10, true) }) (v := ?vfa_12) rfl (by kernel_rfl) (by kernel_rfl) (by kernel_rfl) (fun _ _ _ h => h) (Or.inl ⟨by rfl, ?hyfa_12⟩) (by assumption) ?restfa_12
              case hyfa_12 =>
                intro w hSw
                (try dsimp only at hSw)
                go_simp
                (try with_reducible rfl)
              (try simp only [Act.put, List.setIfInBounds_toArray, List.set_cons_zero, List.set_cons_succ])
              refine wpAnyH_take (i := 12) (oi := { dst := some 55, op := Op.move (Operand.tmp 2), type := 36, pos := "ref.go:41", after := #[{ on := 10, ground := Ground.guard }], guard := some (10, true) }) (v := ?vfa_13) rfl (by kernel_rfl) (by kernel_rfl) (by kernel_rfl) (fun _ _ _ h => h) (Or.inl ⟨by rfl, ?hyfa_13⟩) (by assumption) ?restfa_13
              case hyfa_13 =>
                intro w hSw
                (try dsimp only at hSw)
                go_simp
                (try with_reducible rfl)
              (try simp only [Act.put, List.setIfInBounds_toArray, List.set_cons_zero, List.set_cons_succ])
              refine wpAnyH_ready (rs := [13]) (by kernel_rfl) (by simp) ?_
              refine AllReadyH.cons (o := { dst := some 56, op := Op.call { callee := Callee.value (Operand.func 38), args := #[Operand.tmp 54, Operand.tmp 55], argTypes := #[41, 36] }, type := 4, pos := "ref.go:41", after := #[{ on := 11, ground := Ground.data }, { on := 12, ground := Ground.data }, { on := 10, ground := Ground.chain }, { on := 10, ground := Ground.guard }], guard := some (10, true) }) rfl (fun K hK => ?_) AllReadyH.nil
              go_simp
              (go_at_call 38; refine (HM1.out _ hHeld.1).mono ?_; rintro e8 w8 ⟨rfl, b8⟩; have hb8 : Below wr.heap.size wr w8 := hHeld.1.trans (b8.mono hHeld.1.size))
              go_wp2_with fail
              refine hK.out _ _ (HSF.out _ hb8) (fun hHeld => ?_)
              clear hK K
              (try simp only [Act.put, List.setIfInBounds_toArray, List.set_cons_zero, List.set_cons_succ])
              refine wpAnyH_take (i := 14) (oi := { dst := some 57, op := Op.unOp UnOp.not 4 (Operand.tmp 56), type := 4, pos := "ref.go:41", after := #[{ on := 13, ground := Ground.data }, { on := 10, ground := Ground.guard }], guard := some (10, true) }) (v := ?vfa_14) rfl (by kernel_rfl) (by kernel_rfl) (by kernel_rfl) (fun _ _ _ h => h) (Or.inl ⟨by rfl, ?hyfa_14⟩) (by assumption) ?restfa_14
              case hyfa_14 =>
                intro w hSw
                (try dsimp only at hSw)
                go_simp
                (try with_reducible rfl)
              (try simp only [Act.put, List.setIfInBounds_toArray, List.set_cons_zero, List.set_cons_succ])
              refine wpAnyH_take (i := 15) (oi := { dst := some 58, op := Op.pick (Operand.tmp 53) (Operand.tmp 57) (Operand.const (Value.bool false)), type := 4, pos := "ref.go:41", after := #[{ on := 10, ground := Ground.data }, { on := 14, ground := Ground.data }], guard := none }) (v := ?vfa_15) rfl (by kernel_rfl) (by kernel_rfl) (by kernel_rfl) (fun _ _ _ h => h) (Or.inl ⟨by rfl, ?hyfa_15⟩) (by assumption) ?restfa_15
              case hyfa_15 =>
                intro w hSw
                (try dsimp only at hSw)
                go_simp
                (try with_reducible rfl)
              (try simp only [Act.put, List.setIfInBounds_toArray, List.set_cons_zero, List.set_cons_succ])
              refine wpAnyH_done (by kernel_rfl) ?_ _
              have HT := Lib.hid (HIN.out w8 4 HT2.out (hst.out.1.trans (hb8.mono hst.out.1.size)))
              go_wp2_with fail
              go_ret
              exact HT.out
            · have HT2 := Lib.hid (take_more (room := room) (P := P) HY.out.1 HNC.out HNO.out fun h => h.2 (HMQ.out.2 rfl))
              go_wp2_with fail
              refine wp_region_held_drew (S := (fun V => Below wr.heap.size wr V ∧ V.cell? ⟨w.heap.size, 0, none⟩ = some (.int .i64 fr) ∧ V.cell? ⟨w.heap.size, 1, none⟩ = some (.int .i64 sq) ∧ V.cell? ⟨w.heap.size, 2, none⟩ = some (.string key) ∧ V.cell? ⟨w.heap.size, 3, none⟩ = some (.slice Av 1 cv) ∧ V.cell? ⟨w.heap.size, 4, none⟩ = some (.slice Ar kr cr) ∧ V.cell? ⟨nb, 0, none⟩ = some (.int .i64 room) ∧ V.cell? ⟨nb, 1, none⟩ = some (.slice Aw j cw))) (by kernel_rfl) (HSF.out _ (Below.refl _ wr).drew) (fun hHeld => ?_)
              refine wpAnyH_take (i := 0) (oi := { dst := some 43, op := Op.move (Operand.tmp 0), type := 26, pos := "ref.go:41", after := #[], guard := none }) (v := ?vfb_1) rfl (by kernel_rfl) (by kernel_rfl) (by kernel_rfl) (fun _ _ _ h => h) (Or.inl ⟨by rfl, ?hyfb_1⟩) (by assumption) ?restfb_1
              case hyfb_1 =>
                intro w hSw
                (try dsimp only at hSw)
                go_simp
                (try with_reducible rfl)
              (try simp only [Act.put, List.setIfInBounds_toArray, List.set_cons_zero, List.set_cons_succ])
              refine wpAnyH_take (i := 1) (oi := { dst := some 44, op := Op.nilCheck (Operand.tmp 43), type := 0, pos := "ref.go:41", after := #[{ on := 0, ground := Ground.data }], guard := none }) (v := ?vfb_2) rfl (by kernel_rfl) (by kernel_rfl) (by kernel_rfl) (fun _ _ _ h => h) (Or.inl ⟨by rfl, ?hyfb_2⟩) (by assumption) ?restfb_2
              case hyfb_2 =>
                intro w hSw
                (try dsimp only at hSw)
                go_simp
                (try with_reducible rfl)
              (try simp only [Act.put, List.setIfInBounds_toArray, List.set_cons_zero, List.set_cons_succ])
              refine wpAnyH_take (i := 2) (oi := { dst := some 45, op := Op.fieldAddr 29 (Operand.tmp 44) 1, type := 0, pos := "ref.go:41", after := #[{ on := 1, ground := Ground.data }], guard := none }) (v := ?vfb_3) rfl (by kernel_rfl) (by kernel_rfl) (by kernel_rfl) (fun _ _ _ h => h) (Or.inl ⟨by rfl, ?hyfb_3⟩) (by assumption) ?restfb_3
              case hyfb_3 =>
                intro w hSw
                (try dsimp only at hSw)
                go_simp
                (try with_reducible rfl)
              (try simp only [Act.put, List.setIfInBounds_toArray, List.set_cons_zero, List.set_cons_succ])
              refine wpAnyH_take (i := 3) (oi := { dst := some 46, op := Op.load 27 (Operand.tmp 45), type := 27, pos := "ref.go:41", after := #[{ on := 2, ground := Ground.data }], guard := none }) (v := ?vfb_4) rfl (by kernel_rfl) (by kernel_rfl) (by kernel_rfl) (fun _ _ _ h => h) (Or.inl ⟨by rfl, ?hyfb_4⟩) (by assumption) ?restfb_4
              case hyfb_4 =>
                intro w hSw
                (try dsimp only at hSw)
                go_simp
                (try with_reducible rfl)
              (try simp only [Act.put, List.setIfInBounds_toArray, List.set_cons_zero, List.set_cons_succ])
              refine wpAnyH_take (i := 4) (oi := { dst := some 47, op := Op.call { callee := Callee.builtin Builtin.len, args := #[Operand.tmp 46], argTypes := #[27] }, type := 3, pos := "ref.go:41", after := #[{ on := 3, ground := Ground.data }], guard := none }) (v := ?vfb_5) rfl (by kernel_rfl) (by kernel_rfl) (by kernel_rfl) (fun _ _ _ h => h) (Or.inl ⟨by rfl, ?hyfb_5⟩) (by assumption) ?restfb_5
              case hyfb_5 =>
                intro w hSw
                (try dsimp only at hSw)
                go_simp
                (try with_reducible rfl)
              (try simp only [Act.put, List.setIfInBounds_toArray, List.set_cons_zero, List.set_cons_succ])
              refine wpAnyH_take (i := 5) (oi := { dst := some 48, op := Op.move (Operand.tmp 0), type := 26, pos := "ref.go:41", after := #[], guard := none }) (v := ?vfb_6) rfl (by kernel_rfl) (by kernel_rfl) (by kernel_rfl) (fun _ _ _ h => h) (Or.inl ⟨by rfl, ?hyfb_6⟩) (by assumption) ?restfb_6
              case hyfb_6 =>
                intro w hSw
                (try dsimp only at hSw)
                go_simp
                (try with_reducible rfl)
              (try simp only [Act.put, List.setIfInBounds_toArray, List.set_cons_zero, List.set_cons_succ])
              refine wpAnyH_take (i := 6) (oi := { dst := some 49, op := Op.nilCheck (Operand.tmp 48), type := 0, pos := "ref.go:41", after := #[{ on := 5, ground := Ground.data }], guard := none }) (v := ?vfb_7) rfl (by kernel_rfl) (by kernel_rfl) (by kernel_rfl) (fun _ _ _ h => h) (Or.inl ⟨by rfl, ?hyfb_7⟩) (by assumption) ?restfb_7
              case hyfb_7 =>
                intro w hSw
                (try dsimp only at hSw)
                go_simp
                (try with_reducible rfl)
              (try simp only [Act.put, List.setIfInBounds_toArray, List.set_cons_zero, List.set_cons_succ])
              refine wpAnyH_take (i := 7) (oi := { dst := some 50, op := Op.fieldAddr 29 (Operand.tmp 49) 0, type := 0, pos := "ref.go:41", after := #[{ on := 6, ground := Ground.data }], guard := none }) (v := ?vfb_8) rfl (by kernel_rfl) (by kernel_rfl) (by kernel_rfl) (fun _ _ _ h => h) (Or.inl ⟨by rfl, ?hyfb_8⟩) (by assumption) ?restfb_8
              case hyfb_8 =>
                intro w hSw
                (try dsimp only at hSw)
                go_simp
                (try with_reducible rfl)
              (try simp only [Act.put, List.setIfInBounds_toArray, List.set_cons_zero, List.set_cons_succ])
              refine wpAnyH_take (i := 8) (oi := { dst := some 51, op := Op.load 3 (Operand.tmp 50), type := 3, pos := "ref.go:41", after := #[{ on := 7, ground := Ground.data }], guard := none }) (v := ?vfb_9) rfl (by kernel_rfl) (by kernel_rfl) (by kernel_rfl) (fun _ _ _ h => h) (Or.inl ⟨by rfl, ?hyfb_9⟩) (by assumption) ?restfb_9
              case hyfb_9 =>
                intro w hSw
                (try dsimp only at hSw)
                go_simp
                (try with_reducible rfl)
              (try simp only [Act.put, List.setIfInBounds_toArray, List.set_cons_zero, List.set_cons_succ])
              refine wpAnyH_take (i := 9) (oi := { dst := some 52, op := Op.binOp BinOp.geq 3 (Operand.tmp 47) (Operand.tmp 51) 3, type := 4, pos := "ref.go:41", after := #[{ on := 4, ground := Ground.data }, { on := 8, ground := Ground.data }], guard := none }) (v := ?vfb_10) rfl (by kernel_rfl) (by kernel_rfl) (by kernel_rfl) (fun _ _ _ h => h) (Or.inl ⟨by rfl, ?hyfb_10⟩) (by assumption) ?restfb_10
              case hyfb_10 =>
                intro w hSw
                (try dsimp only at hSw)
                go_simp
                (try with_reducible rfl)
              (try simp only [Act.put, List.setIfInBounds_toArray, List.set_cons_zero, List.set_cons_succ])
              refine wpAnyH_take (i := 10) (oi := { dst := some 53, op := Op.move (Operand.tmp 52), type := 4, pos := "ref.go:41", after := #[{ on := 9, ground := Ground.data }], guard := none }) (v := ?vfb_11) rfl (by kernel_rfl) (by kernel_rfl) (by kernel_rfl) (fun _ _ _ h => h) (Or.inl ⟨by rfl, ?hyfb_11⟩) (by assumption) ?restfb_11
              case hyfb_11 =>
                intro w hSw
                (try dsimp only at hSw)
                go_simp
                (try with_reducible rfl)
              (try simp only [Act.put, List.setIfInBounds_toArray, List.set_cons_zero, List.set_cons_succ])
              refine wpAnyH_take (i := 11) (oi := { dst := some 54, op := Op.load 41 (Operand.tmp 4), type := 41, pos := "ref.go:41", after := #[{ on := 10, ground := Ground.guard }], guard := some (10, true) }) (v := ?vfb_12) rfl (by kernel_rfl) (by kernel_rfl) (by kernel_rfl) (fun _ _ _ h => h) (Or.inl ⟨by rfl, ?hyfb_12⟩) (by assumption) ?restfb_12
              case hyfb_12 =>
                intro w hSw
                (try dsimp only at hSw)
                go_simp
                (try with_reducible rfl)
              (try simp only [Act.put, List.setIfInBounds_toArray, List.set_cons_zero, List.set_cons_succ])
              refine wpAnyH_take (i := 12) (oi := { dst := some 55, op := Op.move (Operand.tmp 2), type := 36, pos := "ref.go:41", after := #[{ on := 10, ground := Ground.guard }], guard := some (10, true) }) (v := ?vfb_13) rfl (by kernel_rfl) (by kernel_rfl) (by kernel_rfl) (fun _ _ _ h => h) (Or.inl ⟨by rfl, ?hyfb_13⟩) (by assumption) ?restfb_13
              case hyfb_13 =>
                intro w hSw
                (try dsimp only at hSw)
                go_simp
                (try with_reducible rfl)
              (try simp only [Act.put, List.setIfInBounds_toArray, List.set_cons_zero, List.set_cons_succ])
              refine wpAnyH_ready (rs := [13]) (by kernel_rfl) (by simp) ?_
              refine AllReadyH.cons (o := { dst := some 56, op := Op.call { callee := Callee.value (Operand.func 38), args := #[Operand.tmp 54, Operand.tmp 55], argTypes := #[41, 36] }, type := 4, pos := "ref.go:41", after := #[{ on := 11, ground := Ground.data }, { on := 12, ground := Ground.data }, { on := 10, ground := Ground.chain }, { on := 10, ground := Ground.guard }], guard := some (10, true) }) rfl (fun K hK => ?_) AllReadyH.nil
              go_simp
              (go_at_call 38; refine (HM1.out _ hHeld.1).mono ?_; rintro e8 w8 ⟨rfl, b8⟩; have hb8 : Below wr.heap.size wr w8 := hHeld.1.trans (b8.mono hHeld.1.size))
              go_wp2_with fail
              refine hK.out _ _ (HSF.out _ hb8) (fun hHeld => ?_)
              clear hK K
              (try simp only [Act.put, List.setIfInBounds_toArray, List.set_cons_zero, List.set_cons_succ])
              refine wpAnyH_take (i := 14) (oi := { dst := some 57, op := Op.unOp UnOp.not 4 (Operand.tmp 56), type := 4, pos := "ref.go:41", after := #[{ on := 13, ground := Ground.data }, { on := 10, ground := Ground.guard }], guard := some (10, true) }) (v := ?vfb_14) rfl (by kernel_rfl) (by kernel_rfl) (by kernel_rfl) (fun _ _ _ h => h) (Or.inl ⟨by rfl, ?hyfb_14⟩) (by assumption) ?restfb_14
              case hyfb_14 =>
                intro w hSw
                (try dsimp only at hSw)
                go_simp
                (try with_reducible rfl)
              (try simp only [Act.put, List.setIfInBounds_toArray, List.set_cons_zero, List.set_cons_succ])
              refine wpAnyH_take (i := 15) (oi := { dst := some 58, op := Op.pick (Operand.tmp 53) (Operand.tmp 57) (Operand.const (Value.bool false)), type := 4, pos := "ref.go:41", after := #[{ on := 10, ground := Ground.data }, { on := 14, ground := Ground.data }], guard := none }) (v := ?vfb_15) rfl (by kernel_rfl) (by kernel_rfl) (by kernel_rfl) (fun _ _ _ h => h) (Or.inl ⟨by rfl, ?hyfb_15⟩) (by assumption) ?restfb_15
              case hyfb_15 =>
                intro w hSw
                (try dsimp only at hSw)
                go_simp
                (try with_reducible rfl)
              (try simp only [Act.put, List.setIfInBounds_toArray, List.set_cons_zero, List.set_cons_succ])
              refine wpAnyH_done (by kernel_rfl) ?_ _
              have HWB := Lib.hid (And.intro (hst.out.1.trans (hb8.mono hst.out.1.size)) (hst.out.2.1.same (hb8.block _ hst.out.2.1.lt)))
              clear hb8 b8 hHeld
              have HO := Lib.hid (HOWN.out (w8) HWB.out.1)
              have hkrb : kr ≤ 17592186043904 := by have := HX.out.2.2.2.2.2.1.2.2; have h2 := HX.out.2.2.2.2.1; simp only at this; omega
              have p2 := (HWB.out.2.cell 2).trans rfl
              have p3 := (HWB.out.2.cell 3).trans rfl
              obtain ⟨i0, hi0, hz0, hz1, hz2⟩ := info_parts info_rfar
              obtain ⟨j0, hj0, hy0, hy1, hy2⟩ := info_parts info_int
              go_wp2_with fail
              refine HO.out.mono ?_
              rintro e w2 ⟨A1, c1, ps, rfl, h2, b2⟩
              have bw2 : Below w.heap.size w w2 := HWB.out.1.trans (b2.mono HWB.out.1.size)
              have B2 := HWB.out.2.same (b2.block _ HWB.out.2.lt)
              have q2 := (B2.cell 2).trans rfl
              have q3 := (B2.cell 3).trans rfl
              have q2f := B2.frozen 2
              have q3f := B2.frozen 3
              have BX := (B2.set 2 (.string key)).set 3 (.slice A1 1 c1)
              have gX := grown_trans_one (gset w2 w.heap.size 2 (.string key)) (gset _ w.heap.size 3 (.slice A1 1 c1))
              obtain ⟨X, hX⟩ : ∃ X, (w2.setCell ⟨w.heap.size, 2, none⟩ (.string key)).setCell ⟨w.heap.size, 3, none⟩ (.slice A1 1 c1) = X := ⟨_, rfl⟩
              rw [hX] at BX gX
              simp only [List.set] at BX
              have bX : Below w.heap.size w X := bw2.grown gX bw2.size fun i hi => by injection hi with hi; omega
              have r4 := (BX.cell 4).trans rfl
              have hvs : Vs X (w8).heap.size w2.heap.size A1 lv := by
                have h := h2.out.2.vs (Nat.le_refl _)
                rw [h2.out.1] at h
                exact h.keep fun p hp1 hp2 => World.cell?_of_block (gX.block _ hp2 (by intro q; injection q with q; have := HWB.out.2.lt; omega))
              have hrX := (HX.out.2.1.below bX).more bX.size
              have hc1 : 1 ≤ c1 := by
                have h4 := h2.out.2.1
                rw [show ps.length = 1 by rw [← List.length_map (f := Prod.fst), h2.out.1]; exact HX.out.2.2.2.1] at h4
                exact (own_low h4).1
              have ho := World.ownsRow_lit (base := X.heap.size) (e := 3) (size := 1) X #[] 0 (Nat.le_refl _) (by unfold maxLen; omega) rfl
              have hX1 := (Below.refl X.heap.size X).alloc (Nat.le_refl _) (.cells #[] 3)
              have r5 := ((BX.same (hX1.block _ BX.lt)).cell 4).trans rfl
              have HXX := Lib.hid (And.intro bX (And.intro BX (And.intro hvs (And.intro ho (And.intro (hrX.below hX1) (And.intro hX1 (And.intro b2.size (And.intro gX.size hc1))))))))
              clear bw2 B2 BX gX bX hvs hrX ho hX1 b2 h2 HO
              go_wp2_with (at_builtin; refine wpList_append_ns _ rfl (.tmp 63) (.tmp 65) 33 rfl X.heap.size 3 j0 _ 8 Try.underlying33 hj0 hy0 hy1 hy2 rfl _ 0 [] rfl HXX.out.2.2.2.1 .i64 X.heap.size Ar kr cr rt HX.out.2.2.2.2.1 rfl HXX.out.2.2.2.2.1 (by omega) (by omega) (by simp) ?_; intro v3 w3 o3 g3 _; rw [Nat.zero_add, List.nil_append] at o3; obtain ⟨A2, c2, rfl⟩ := own_form o3; have b3 := HXX.out.2.2.2.2.2.1.grown g3 (by simp) (fun i hi => (HXX.out.2.2.2.1.lt i hi).1); have B3 := HXX.out.2.1.same (b3.block _ HXX.out.2.1.lt); have t4 := (B3.cell 4).trans rfl; have t4f := B3.frozen 4; have BZ := B3.set 4 (.slice A2 kr c2); have gZ := gset w3 w.heap.size 4 (.slice A2 kr c2); obtain ⟨Z, hZ⟩ : ∃ Z, w3.setCell ⟨w.heap.size, 4, none⟩ (.slice A2 kr c2) = Z := ⟨_, rfl⟩; rw [hZ] at BZ gZ; simp only [List.set] at BZ; have z0 := (BZ.cell 0).trans rfl; have z1 := (BZ.cell 1).trans rfl; have z2 := (BZ.cell 2).trans rfl; have z3 := (BZ.cell 3).trans rfl; have z4 := (BZ.cell 4).trans rfl; have bw3 : Below w.heap.size w w3 := HXX.out.1.trans (b3.mono HXX.out.1.size); have bZ : Below w.heap.size w Z := bw3.grown gZ bw3.size (fun i hi => by injection hi with hi; omega); have y1 := ((HS.out.1.below bZ).1.1.cell 1).trans rfl; have HZ3 := Lib.hid (And.intro bZ (And.intro BZ (And.intro gZ (And.intro o3 b3)))); clear o3 g3 b3 B3 BZ gZ bw3 bZ)
              have HZA : Hid (Below w.heap.size w (Z.alloc (.cells #[.int .i64 fr, .int .i64 sq, .string key, .slice A1 1 c1, .slice A2 kr c2] 41)).drew) := Lib.hid ((HZ3.out.1.alloc HZ3.out.1.size _).trans (show Below w.heap.size (Z.alloc (.cells #[.int .i64 fr, .int .i64 sq, .string key, .slice A1 1 c1, .slice A2 kr c2] 41)) (Z.alloc (.cells #[.int .i64 fr, .int .i64 sq, .string key, .slice A1 1 c1, .slice A2 kr c2] 41)).drew from (Below.refl _ _).drew))
              have p0 : (Z.alloc (.cells #[.int .i64 fr, .int .i64 sq, .string key, .slice A1 1 c1, .slice A2 kr c2] 41)).cell? ⟨nb, 1, none⟩ = some (.slice Aw j cw) := ((HS.out.1.below HZA.out).1.1.cell 1).trans rfl
              go_region_law (first
                | (refine step_append_lies _ (by rfl) _ _ _ (by rfl) 0 41 i0 _ 5 80 Try.underlying27 hi0 hz0 hz1 hz2 (by rfl) (by omega) (.slice Aw j cw) j (fcs _) (by rfl) (HS.out.1.below HZA.out).1.2 ⟨Z.heap.size, 0, none⟩ 1 1 [.int .i64 fr, .int .i64 sq, .string key, .slice A1 1 c1, .slice A2 kr c2] (by rfl) (by rfl) (World.news_of_block (show (Z.alloc (.cells #[.int .i64 fr, .int .i64 sq, .string key, .slice A1 1 c1, .slice A2 kr c2] 41)).drew.heap[Z.heap.size]? = _ from heap_alloc_new Z _)) (by simp [Value.oneCell']) (by omega) (by unfold maxLen; omega) (by omega) (Nat.zero_le _) (Z.heap.size + 1) (by simp) ?_; intro g7 cap7 w7 o7 gr7 at7 hl7; have hB7 := HS.out.1.below HZA.out; have r0 := ((hB7.1.1.kept gr7 (fun q => own_ne hB7.1.2 hB7.1.1 (by decide) q.symm)).cell 1).trans rfl; have r1 := (hB7.1.1.kept gr7 (fun q => own_ne hB7.1.2 hB7.1.1 (by decide) q.symm)).frozen 1))
              all_goals
                have HZ := Lib.hid (And.intro o7 (And.intro gr7 (And.intro at7 hl7)))
                clear o7 gr7 at7 hl7 hB7
                go_wp2_with fail
                go_ret
                obtain ⟨o7, gr7, at7, hl7⟩ := HZ.out
                obtain ⟨bZ, BZ, gZ, o3, b3⟩ := HZ3.out
                obtain ⟨bX, BX, hvs, ho, hrX, hX1, hs2, hsX, hc1⟩ := HXX.out
                have hbv := HZA.out
                have hlow := HWB.out.1.size
                have hs3 := b3.size
                have hsZ := gZ.size
                have hwl := HWB.out.2.lt
                have hd : Hd Z (w8).heap.size w3.heap.size (((fr, sq), (key, lv), rt), (A1, c1), (A2, c2)) := by
                  refine Hd.heap (w := w3) ⟨?_, ?_, ?_, ?_⟩ fun k a b => gZ.block k b (by intro q; injection q with q; omega)
                  · exact (hvs.keep fun p hp1 hp2 => World.cell?_of_block (b3.block _ (by omega))).more (by omega)
                  · exact own_ns (n := kr) (c := c2) (by rw [HX.out.2.2.2.2.1]; exact o3)
                  · intro hp a ha
                    have := (own_low o3).2 (by have := HX.out.2.2.2.2.1; simp only at hp; omega) a ha
                    omega
                  · have h := HXX.out.2.2.2.2.2.2.2.2
                    have h2 := HX.out.2.2.2.1
                    simp only
                    omega
                have hP := HS.out.1.push (by decide) hbv (x := (((fr, sq), (key, lv), rt), (A1, c1), (A2, c2))) (hd.heap fun k a b => show (Z.alloc _).heap[k]? = Z.heap[k]? from Below.heap_alloc _ _ _ (by omega)) hlow (by show w3.heap.size ≤ (Z.alloc _).heap.size; rw [World.size_alloc]; omega) HX.out.2.2.2.2.2.1 (by rw [show fc (((fr, sq), (key, lv), rt), (A1, c1), (A2, c2)) = [.int .i64 fr, .int .i64 sq, .string key, .slice A1 1 c1, .slice A2 kr c2] by unfold fc; rw [show lv.length = 1 from HX.out.2.2.2.1, HX.out.2.2.2.2.1]]; exact o7) gr7 (at7.imp id fun q => by show (Z.alloc _).heap.size ≤ g7; rw [World.size_alloc]; omega)
                have hgs := gset w7 nb 1 (.slice (some ⟨g7, 0, none⟩) (j + 1) cap7)
                refine ⟨fun i => F i ∨ (w.heap.size ≤ i ∧ i < w7.heap.size), by rw [HT2.out]; rfl, Lib.hid ⟨?_, ?_, fun i hi => hi.imp id fun q => q.1⟩⟩
                · rw [HT2.out]
                  exact ⟨some ⟨g7, 0, none⟩, cap7, j + 1, l ++ [(((fr, sq), (key, lv), rt), (A1, c1), (A2, c2))], by rw [List.map_append, HS.out.2.1]; rfl, hP⟩
                · exact ((Chg.of_below hbv).trans (Chg.of_grown gr7 fun g hg => HS.out.1.2.2.2.1 g hg) fun i hi => .inl hi).trans (Chg.of_grown hgs fun g hg => by injection hg with hg; subst hg; exact HS.out.1.2.2.1) fun i hi => .inl hi
          · have d3 : decide (room ≤ (j : Int)) = false := decide_eq_false hfull
            have HT2 := Lib.hid (take_more (room := room) (P := P) HY.out.1 HNC.out HNO.out fun h => hfull (by have := HS.out.2.2.2; have := h.1; omega))
            clear hfull
            go_wp2_with fail
            refine wp_region_held_drew (S := (fun V => Below wr.heap.size wr V ∧ V.cell? ⟨w.heap.size, 0, none⟩ = some (.int .i64 fr) ∧ V.cell? ⟨w.heap.size, 1, none⟩ = some (.int .i64 sq) ∧ V.cell? ⟨w.heap.size, 2, none⟩ = some (.string key) ∧ V.cell? ⟨w.heap.size, 3, none⟩ = some (.slice Av 1 cv) ∧ V.cell? ⟨w.heap.size, 4, none⟩ = some (.slice Ar kr cr) ∧ V.cell? ⟨nb, 0, none⟩ = some (.int .i64 room) ∧ V.cell? ⟨nb, 1, none⟩ = some (.slice Aw j cw))) (by kernel_rfl) (HSF.out _ (Below.refl _ wr).drew) (fun hHeld => ?_)
            refine wpAnyH_take (i := 0) (oi := { dst := some 43, op := Op.move (Operand.tmp 0), type := 26, pos := "ref.go:41", after := #[], guard := none }) (v := ?vfc_1) rfl (by kernel_rfl) (by kernel_rfl) (by kernel_rfl) (fun _ _ _ h => h) (Or.inl ⟨by rfl, ?hyfc_1⟩) (by assumption) ?restfc_1
            case hyfc_1 =>
              intro w hSw
              (try dsimp only at hSw)
              go_simp
              (try with_reducible rfl)
            (try simp only [Act.put, List.setIfInBounds_toArray, List.set_cons_zero, List.set_cons_succ])
            refine wpAnyH_take (i := 1) (oi := { dst := some 44, op := Op.nilCheck (Operand.tmp 43), type := 0, pos := "ref.go:41", after := #[{ on := 0, ground := Ground.data }], guard := none }) (v := ?vfc_2) rfl (by kernel_rfl) (by kernel_rfl) (by kernel_rfl) (fun _ _ _ h => h) (Or.inl ⟨by rfl, ?hyfc_2⟩) (by assumption) ?restfc_2
            case hyfc_2 =>
              intro w hSw
              (try dsimp only at hSw)
              go_simp
              (try with_reducible rfl)
            (try simp only [Act.put, List.setIfInBounds_toArray, List.set_cons_zero, List.set_cons_succ])
            refine wpAnyH_take (i := 2) (oi := { dst := some 45, op := Op.fieldAddr 29 (Operand.tmp 44) 1, type := 0, pos := "ref.go:41", after := #[{ on := 1, ground := Ground.data }], guard := none }) (v := ?vfc_3) rfl (by kernel_rfl) (by kernel_rfl) (by kernel_rfl) (fun _ _ _ h => h) (Or.inl ⟨by rfl, ?hyfc_3⟩) (by assumption) ?restfc_3
            case hyfc_3 =>
              intro w hSw
              (try dsimp only at hSw)
              go_simp
              (try with_reducible rfl)
            (try simp only [Act.put, List.setIfInBounds_toArray, List.set_cons_zero, List.set_cons_succ])
            refine wpAnyH_take (i := 3) (oi := { dst := some 46, op := Op.load 27 (Operand.tmp 45), type := 27, pos := "ref.go:41", after := #[{ on := 2, ground := Ground.data }], guard := none }) (v := ?vfc_4) rfl (by kernel_rfl) (by kernel_rfl) (by kernel_rfl) (fun _ _ _ h => h) (Or.inl ⟨by rfl, ?hyfc_4⟩) (by assumption) ?restfc_4
            case hyfc_4 =>
              intro w hSw
              (try dsimp only at hSw)
              go_simp
              (try with_reducible rfl)
            (try simp only [Act.put, List.setIfInBounds_toArray, List.set_cons_zero, List.set_cons_succ])
            refine wpAnyH_take (i := 4) (oi := { dst := some 47, op := Op.call { callee := Callee.builtin Builtin.len, args := #[Operand.tmp 46], argTypes := #[27] }, type := 3, pos := "ref.go:41", after := #[{ on := 3, ground := Ground.data }], guard := none }) (v := ?vfc_5) rfl (by kernel_rfl) (by kernel_rfl) (by kernel_rfl) (fun _ _ _ h => h) (Or.inl ⟨by rfl, ?hyfc_5⟩) (by assumption) ?restfc_5
            case hyfc_5 =>
              intro w hSw
              (try dsimp only at hSw)
              go_simp
              (try with_reducible rfl)
            (try simp only [Act.put, List.setIfInBounds_toArray, List.set_cons_zero, List.set_cons_succ])
            refine wpAnyH_take (i := 5) (oi := { dst := some 48, op := Op.move (Operand.tmp 0), type := 26, pos := "ref.go:41", after := #[], guard := none }) (v := ?vfc_6) rfl (by kernel_rfl) (by kernel_rfl) (by kernel_rfl) (fun _ _ _ h => h) (Or.inl ⟨by rfl, ?hyfc_6⟩) (by assumption) ?restfc_6
            case hyfc_6 =>
              intro w hSw
              (try dsimp only at hSw)
              go_simp
              (try with_reducible rfl)
            (try simp only [Act.put, List.setIfInBounds_toArray, List.set_cons_zero, List.set_cons_succ])
            refine wpAnyH_take (i := 6) (oi := { dst := some 49, op := Op.nilCheck (Operand.tmp 48), type := 0, pos := "ref.go:41", after := #[{ on := 5, ground := Ground.data }], guard := none }) (v := ?vfc_7) rfl (by kernel_rfl) (by kernel_rfl) (by kernel_rfl) (fun _ _ _ h => h) (Or.inl ⟨by rfl, ?hyfc_7⟩) (by assumption) ?restfc_7
            case hyfc_7 =>
              intro w hSw
              (try dsimp only at hSw)
              go_simp
              (try with_reducible rfl)
            (try simp only [Act.put, List.setIfInBounds_toArray, List.set_cons_zero, List.set_cons_succ])
            refine wpAnyH_take (i := 7) (oi := { dst := some 50, op := Op.fieldAddr 29 (Operand.tmp 49) 0, type := 0, pos := "ref.go:41", after := #[{ on := 6, ground := Ground.data }], guard := none }) (v := ?vfc_8) rfl (by kernel_rfl) (by kernel_rfl) (by kernel_rfl) (fun _ _ _ h => h) (Or.inl ⟨by rfl, ?hyfc_8⟩) (by assumption) ?restfc_8
            case hyfc_8 =>
              intro w hSw
              (try dsimp only at hSw)
              go_simp
              (try with_reducible rfl)
            (try simp only [Act.put, List.setIfInBounds_toArray, List.set_cons_zero, List.set_cons_succ])
            refine wpAnyH_take (i := 8) (oi := { dst := some 51, op := Op.load 3 (Operand.tmp 50), type := 3, pos := "ref.go:41", after := #[{ on := 7, ground := Ground.data }], guard := none }) (v := ?vfc_9) rfl (by kernel_rfl) (by kernel_rfl) (by kernel_rfl) (fun _ _ _ h => h) (Or.inl ⟨by rfl, ?hyfc_9⟩) (by assumption) ?restfc_9
            case hyfc_9 =>
              intro w hSw
              (try dsimp only at hSw)
              go_simp
              (try with_reducible rfl)
            (try simp only [Act.put, List.setIfInBounds_toArray, List.set_cons_zero, List.set_cons_succ])
            refine wpAnyH_take (i := 9) (oi := { dst := some 52, op := Op.binOp BinOp.geq 3 (Operand.tmp 47) (Operand.tmp 51) 3, type := 4, pos := "ref.go:41", after := #[{ on := 4, ground := Ground.data }, { on := 8, ground := Ground.data }], guard := none }) (v := ?vfc_10) rfl (by kernel_rfl) (by kernel_rfl) (by kernel_rfl) (fun _ _ _ h => h) (Or.inl ⟨by rfl, ?hyfc_10⟩) (by assumption) ?restfc_10
            case hyfc_10 =>
              intro w hSw
              (try dsimp only at hSw)
              go_simp
              (try with_reducible rfl)
            (try simp only [Act.put, List.setIfInBounds_toArray, List.set_cons_zero, List.set_cons_succ])
            refine wpAnyH_take (i := 10) (oi := { dst := some 53, op := Op.move (Operand.tmp 52), type := 4, pos := "ref.go:41", after := #[{ on := 9, ground := Ground.data }], guard := none }) (v := ?vfc_11) rfl (by kernel_rfl) (by kernel_rfl) (by kernel_rfl) (fun _ _ _ h => h) (Or.inl ⟨by rfl, ?hyfc_11⟩) (by assumption) ?restfc_11
            case hyfc_11 =>
              intro w hSw
              (try dsimp only at hSw)
              go_simp
              (try with_reducible rfl)
            (try simp only [Act.put, List.setIfInBounds_toArray, List.set_cons_zero, List.set_cons_succ])
            refine wpAnyH_take (i := 11) (oi := { dst := some 54, op := Op.load 41 (Operand.tmp 4), type := 41, pos := "ref.go:41", after := #[{ on := 10, ground := Ground.guard }], guard := some (10, true) }) (v := undef) rfl (by kernel_rfl) (by kernel_rfl) (by kernel_rfl) (fun _ _ _ h => h) (Or.inr ⟨by rfl, rfl⟩) (by assumption) ?_
            (try simp only [Act.put, List.setIfInBounds_toArray, List.set_cons_zero, List.set_cons_succ])
            refine wpAnyH_take (i := 12) (oi := { dst := some 55, op := Op.move (Operand.tmp 2), type := 36, pos := "ref.go:41", after := #[{ on := 10, ground := Ground.guard }], guard := some (10, true) }) (v := undef) rfl (by kernel_rfl) (by kernel_rfl) (by kernel_rfl) (fun _ _ _ h => h) (Or.inr ⟨by rfl, rfl⟩) (by assumption) ?_
            (try simp only [Act.put, List.setIfInBounds_toArray, List.set_cons_zero, List.set_cons_succ])
            refine wpAnyH_take (i := 13) (oi := { dst := some 56, op := Op.call { callee := Callee.value (Operand.func 38), args := #[Operand.tmp 54, Operand.tmp 55], argTypes := #[41, 36] }, type := 4, pos := "ref.go:41", after := #[{ on := 11, ground := Ground.data }, { on := 12, ground := Ground.data }, { on := 10, ground := Ground.chain }, { on := 10, ground := Ground.guard }], guard := some (10, true) }) (v := undef) rfl (by kernel_rfl) (by kernel_rfl) (by kernel_rfl) (fun _ _ _ h => h) (Or.inr ⟨by rfl, rfl⟩) (by assumption) ?_
            (try simp only [Act.put, List.setIfInBounds_toArray, List.set_cons_zero, List.set_cons_succ])
            refine wpAnyH_take (i := 14) (oi := { dst := some 57, op := Op.unOp UnOp.not 4 (Operand.tmp 56), type := 4, pos := "ref.go:41", after := #[{ on := 13, ground := Ground.data }, { on := 10, ground := Ground.guard }], guard := some (10, true) }) (v := undef) rfl (by kernel_rfl) (by kernel_rfl) (by kernel_rfl) (fun _ _ _ h => h) (Or.inr ⟨by rfl, rfl⟩) (by assumption) ?_
            (try simp only [Act.put, List.setIfInBounds_toArray, List.set_cons_zero, List.set_cons_succ])
            refine wpAnyH_take (i := 15) (oi := { dst := some 58, op := Op.pick (Operand.tmp 53) (Operand.tmp 57) (Operand.const (Value.bool false)), type := 4, pos := "ref.go:41", after := #[{ on := 10, ground := Ground.data }, { on := 14, ground := Ground.data }], guard := none }) (v := ?vfc_16) rfl (by kernel_rfl) (by kernel_rfl) (by kernel_rfl) (fun _ _ _ h => h) (Or.inl ⟨by rfl, ?hyfc_16⟩) (by assumption) ?restfc_16
            case hyfc_16 =>
              intro w hSw
              (try dsimp only at hSw)
              go_simp
              (try with_reducible rfl)
            (try simp only [Act.put, List.setIfInBounds_toArray, List.set_cons_zero, List.set_cons_succ])
            refine wpAnyH_done (by kernel_rfl) ?_ _
            have HWB := Lib.hid (And.intro (hst.out.1.trans (show Below w.heap.size wr wr.drew from (Below.refl _ wr).drew)) (hst.out.2.1.same (show wr.drew.heap[w.heap.size]? = wr.heap[w.heap.size]? from rfl)))
            have HO := Lib.hid (HOWN.out (wr.drew) HWB.out.1)
            have hkrb : kr ≤ 17592186043904 := by have := HX.out.2.2.2.2.2.1.2.2; have h2 := HX.out.2.2.2.2.1; simp only at this; omega
            have p2 := (HWB.out.2.cell 2).trans rfl
            have p3 := (HWB.out.2.cell 3).trans rfl
            obtain ⟨i0, hi0, hz0, hz1, hz2⟩ := info_parts info_rfar
            obtain ⟨j0, hj0, hy0, hy1, hy2⟩ := info_parts info_int
            go_wp2_with fail
            refine HO.out.mono ?_
            rintro e w2 ⟨A1, c1, ps, rfl, h2, b2⟩
            have bw2 : Below w.heap.size w w2 := HWB.out.1.trans (b2.mono HWB.out.1.size)
            have B2 := HWB.out.2.same (b2.block _ HWB.out.2.lt)
            have q2 := (B2.cell 2).trans rfl
            have q3 := (B2.cell 3).trans rfl
            have q2f := B2.frozen 2
            have q3f := B2.frozen 3
            have BX := (B2.set 2 (.string key)).set 3 (.slice A1 1 c1)
            have gX := grown_trans_one (gset w2 w.heap.size 2 (.string key)) (gset _ w.heap.size 3 (.slice A1 1 c1))
            obtain ⟨X, hX⟩ : ∃ X, (w2.setCell ⟨w.heap.size, 2, none⟩ (.string key)).setCell ⟨w.heap.size, 3, none⟩ (.slice A1 1 c1) = X := ⟨_, rfl⟩
            rw [hX] at BX gX
            simp only [List.set] at BX
            have bX : Below w.heap.size w X := bw2.grown gX bw2.size fun i hi => by injection hi with hi; omega
            have r4 := (BX.cell 4).trans rfl
            have hvs : Vs X (wr.drew).heap.size w2.heap.size A1 lv := by
              have h := h2.out.2.vs (Nat.le_refl _)
              rw [h2.out.1] at h
              exact h.keep fun p hp1 hp2 => World.cell?_of_block (gX.block _ hp2 (by intro q; injection q with q; have := HWB.out.2.lt; omega))
            have hrX := (HX.out.2.1.below bX).more bX.size
            have hc1 : 1 ≤ c1 := by
              have h4 := h2.out.2.1
              rw [show ps.length = 1 by rw [← List.length_map (f := Prod.fst), h2.out.1]; exact HX.out.2.2.2.1] at h4
              exact (own_low h4).1
            have ho := World.ownsRow_lit (base := X.heap.size) (e := 3) (size := 1) X #[] 0 (Nat.le_refl _) (by unfold maxLen; omega) rfl
            have hX1 := (Below.refl X.heap.size X).alloc (Nat.le_refl _) (.cells #[] 3)
            have r5 := ((BX.same (hX1.block _ BX.lt)).cell 4).trans rfl
            have HXX := Lib.hid (And.intro bX (And.intro BX (And.intro hvs (And.intro ho (And.intro (hrX.below hX1) (And.intro hX1 (And.intro b2.size (And.intro gX.size hc1))))))))
            clear bw2 B2 BX gX bX hvs hrX ho hX1 b2 h2 HO
            go_wp2_with (at_builtin; refine wpList_append_ns _ rfl (.tmp 63) (.tmp 65) 33 rfl X.heap.size 3 j0 _ 8 Try.underlying33 hj0 hy0 hy1 hy2 rfl _ 0 [] rfl HXX.out.2.2.2.1 .i64 X.heap.size Ar kr cr rt HX.out.2.2.2.2.1 rfl HXX.out.2.2.2.2.1 (by omega) (by omega) (by simp) ?_; intro v3 w3 o3 g3 _; rw [Nat.zero_add, List.nil_append] at o3; obtain ⟨A2, c2, rfl⟩ := own_form o3; have b3 := HXX.out.2.2.2.2.2.1.grown g3 (by simp) (fun i hi => (HXX.out.2.2.2.1.lt i hi).1); have B3 := HXX.out.2.1.same (b3.block _ HXX.out.2.1.lt); have t4 := (B3.cell 4).trans rfl; have t4f := B3.frozen 4; have BZ := B3.set 4 (.slice A2 kr c2); have gZ := gset w3 w.heap.size 4 (.slice A2 kr c2); obtain ⟨Z, hZ⟩ : ∃ Z, w3.setCell ⟨w.heap.size, 4, none⟩ (.slice A2 kr c2) = Z := ⟨_, rfl⟩; rw [hZ] at BZ gZ; simp only [List.set] at BZ; have z0 := (BZ.cell 0).trans rfl; have z1 := (BZ.cell 1).trans rfl; have z2 := (BZ.cell 2).trans rfl; have z3 := (BZ.cell 3).trans rfl; have z4 := (BZ.cell 4).trans rfl; have bw3 : Below w.heap.size w w3 := HXX.out.1.trans (b3.mono HXX.out.1.size); have bZ : Below w.heap.size w Z := bw3.grown gZ bw3.size (fun i hi => by injection hi with hi; omega); have y1 := ((HS.out.1.below bZ).1.1.cell 1).trans rfl; have HZ3 := Lib.hid (And.intro bZ (And.intro BZ (And.intro gZ (And.intro o3 b3)))); clear o3 g3 b3 B3 BZ gZ bw3 bZ)
            have HZA : Hid (Below w.heap.size w (Z.alloc (.cells #[.int .i64 fr, .int .i64 sq, .string key, .slice A1 1 c1, .slice A2 kr c2] 41)).drew) := Lib.hid ((HZ3.out.1.alloc HZ3.out.1.size _).trans (show Below w.heap.size (Z.alloc (.cells #[.int .i64 fr, .int .i64 sq, .string key, .slice A1 1 c1, .slice A2 kr c2] 41)) (Z.alloc (.cells #[.int .i64 fr, .int .i64 sq, .string key, .slice A1 1 c1, .slice A2 kr c2] 41)).drew from (Below.refl _ _).drew))
            have p0 : (Z.alloc (.cells #[.int .i64 fr, .int .i64 sq, .string key, .slice A1 1 c1, .slice A2 kr c2] 41)).cell? ⟨nb, 1, none⟩ = some (.slice Aw j cw) := ((HS.out.1.below HZA.out).1.1.cell 1).trans rfl
            go_region_law (first
              | (refine step_append_lies _ (by rfl) _ _ _ (by rfl) 0 41 i0 _ 5 80 Try.underlying27 hi0 hz0 hz1 hz2 (by rfl) (by omega) (.slice Aw j cw) j (fcs _) (by rfl) (HS.out.1.below HZA.out).1.2 ⟨Z.heap.size, 0, none⟩ 1 1 [.int .i64 fr, .int .i64 sq, .string key, .slice A1 1 c1, .slice A2 kr c2] (by rfl) (by rfl) (World.news_of_block (show (Z.alloc (.cells #[.int .i64 fr, .int .i64 sq, .string key, .slice A1 1 c1, .slice A2 kr c2] 41)).drew.heap[Z.heap.size]? = _ from heap_alloc_new Z _)) (by simp [Value.oneCell']) (by omega) (by unfold maxLen; omega) (by omega) (Nat.zero_le _) (Z.heap.size + 1) (by simp) ?_; intro g7 cap7 w7 o7 gr7 at7 hl7; have hB7 := HS.out.1.below HZA.out; have r0 := ((hB7.1.1.kept gr7 (fun q => own_ne hB7.1.2 hB7.1.1 (by decide) q.symm)).cell 1).trans rfl; have r1 := (hB7.1.1.kept gr7 (fun q => own_ne hB7.1.2 hB7.1.1 (by decide) q.symm)).frozen 1))
            all_goals
              have HZ := Lib.hid (And.intro o7 (And.intro gr7 (And.intro at7 hl7)))
              clear o7 gr7 at7 hl7 hB7
              go_wp2_with fail
              go_ret
              obtain ⟨o7, gr7, at7, hl7⟩ := HZ.out
              obtain ⟨bZ, BZ, gZ, o3, b3⟩ := HZ3.out
              obtain ⟨bX, BX, hvs, ho, hrX, hX1, hs2, hsX, hc1⟩ := HXX.out
              have hbv := HZA.out
              have hlow := HWB.out.1.size
              have hs3 := b3.size
              have hsZ := gZ.size
              have hwl := HWB.out.2.lt
              have hd : Hd Z (wr.drew).heap.size w3.heap.size (((fr, sq), (key, lv), rt), (A1, c1), (A2, c2)) := by
                refine Hd.heap (w := w3) ⟨?_, ?_, ?_, ?_⟩ fun k a b => gZ.block k b (by intro q; injection q with q; omega)
                · exact (hvs.keep fun p hp1 hp2 => World.cell?_of_block (b3.block _ (by omega))).more (by omega)
                · exact own_ns (n := kr) (c := c2) (by rw [HX.out.2.2.2.2.1]; exact o3)
                · intro hp a ha
                  have := (own_low o3).2 (by have := HX.out.2.2.2.2.1; simp only at hp; omega) a ha
                  omega
                · have h := HXX.out.2.2.2.2.2.2.2.2
                  have h2 := HX.out.2.2.2.1
                  simp only
                  omega
              have hP := HS.out.1.push (by decide) hbv (x := (((fr, sq), (key, lv), rt), (A1, c1), (A2, c2))) (hd.heap fun k a b => show (Z.alloc _).heap[k]? = Z.heap[k]? from Below.heap_alloc _ _ _ (by omega)) hlow (by show w3.heap.size ≤ (Z.alloc _).heap.size; rw [World.size_alloc]; omega) HX.out.2.2.2.2.2.1 (by rw [show fc (((fr, sq), (key, lv), rt), (A1, c1), (A2, c2)) = [.int .i64 fr, .int .i64 sq, .string key, .slice A1 1 c1, .slice A2 kr c2] by unfold fc; rw [show lv.length = 1 from HX.out.2.2.2.1, HX.out.2.2.2.2.1]]; exact o7) gr7 (at7.imp id fun q => by show (Z.alloc _).heap.size ≤ g7; rw [World.size_alloc]; omega)
              have hgs := gset w7 nb 1 (.slice (some ⟨g7, 0, none⟩) (j + 1) cap7)
              refine ⟨fun i => F i ∨ (w.heap.size ≤ i ∧ i < w7.heap.size), by rw [HT2.out]; rfl, Lib.hid ⟨?_, ?_, fun i hi => hi.imp id fun q => q.1⟩⟩
              · rw [HT2.out]
                exact ⟨some ⟨g7, 0, none⟩, cap7, j + 1, l ++ [(((fr, sq), (key, lv), rt), (A1, c1), (A2, c2))], by rw [List.map_append, HS.out.2.1]; rfl, hP⟩
              · exact ((Chg.of_below hbv).trans (Chg.of_grown gr7 fun g hg => HS.out.1.2.2.2.1 g hg) fun i hi => .inl hi).trans (Chg.of_grown hgs fun g hg => by injection hg with hg; subst hg; exact HS.out.1.2.2.1) fun i hi => .inl hi
    · have HT := Lib.hid (HIN.out w4 1 (take_cov HY.out.1 (HQ.out.2 rfl)) H4.out.1)
      go_wp2_with fail
      go_ret
      exact HT.out
  · by_cases hrr : Code.okR (key, lv)
    · have hdec : decide (Code.okR (key, lv)) = true := decide_eq_true hrr
      rw [hdec] at HR
      have hm1 : ¬ m = 1 := fun h => hok ⟨hrr, by rw [← h]; exact hm⟩
      have em : ((m : Int) == 1) = false := by simp; omega
      have em2 : ¬ ((m : Int) = 1) := by omega
      have HT := Lib.hid hok
      clear hok hdec hv hr hvv hm hkr hz hn hS e hP bU BU hm1 hrr
      go_enter Try.func12, Try.ntmps12
      go_wp2_with fail
      refine HR.out.mono ?_
      rintro e w2 ⟨rfl, b2⟩
      have x3 := ((HB.out.2.same (b2.block _ HB.out.2.lt)).cell 3).trans rfl
      have HB2 := Lib.hid (HB.out.1.trans (b2.mono HB.out.1.size))
      clear b2
      go_wp2_with fail
      go_ret
      exact HIN.out _ _ (take_bad HT.out) HB2.out
    · have hdec : decide (Code.okR (key, lv)) = false := decide_eq_false hrr
      rw [hdec] at HR
      have HT := Lib.hid hok
      clear hok hdec hv hr hvv hm hkr hz hn hS e hP bU BU hrr
      go_enter Try.func12, Try.ntmps12
      go_wp2_with fail
      refine HR.out.mono ?_
      rintro e w2 ⟨rfl, b2⟩
      have HB2 := Lib.hid (HB.out.1.trans (b2.mono HB.out.1.size))
      clear b2
      go_wp2_with fail
      go_ret
      exact HIN.out _ _ (take_bad HT.out) HB2.out
end Inbox
end Go.Proofs.Ytiempgabamheiaa
