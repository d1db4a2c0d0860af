/-
  TreeFinds (P11.1 to P11.3): where two trees' records differ under one key alone, no other place than that key's differs. For every input.
-/
import Derived.Test.YtbaclinjimfncaaGreatTreeTwo
import Derived.Test.YtbaclinjimfncaaGreatTreeArgs
namespace Go.Proofs.YtbaclinjimfncaaGreat
namespace TreeFinds
open Go.ChangeShapes Go.WideShapes Go.ChangeAt Go.RowKit Vers Num Ring Disk Blk Tree
open Go.Proofs.YtbaclinjimfncaaGreat.Code hiding Bn
attribute [local go_sem ↓] Go.wp_at_zero Go.wp_at_succ
theorem beneath_with {L : List Rc} (hs : Srt L) {r : Rc} {p : List Int} (h : inP p r.1 = false) : beneath (withR L r) p = beneath L p := by
  refine srt_mem (beneath_srt (with_srt hs r) p) (beneath_srt hs p) fun x => ?_
  rw [beneath_mem, beneath_mem, with_mem]
  constructor
  · rintro ⟨⟨rfl, _⟩ | ⟨hx, _⟩, hi⟩
    · rw [h] at hi; cases hi
    · exact ⟨hx, hi⟩
  · rintro ⟨hx, hi⟩
    exact ⟨.inr ⟨hx, fun e => by rw [e, h] at hi; cases hi⟩, hi⟩
theorem hash_with {L : List Rc} (hs : Srt L) {r : Rc} {p : List Int} (h : inP p r.1 = false) : hashF (withR L r) p = hashF L p := by
  unfold hashF
  by_cases hp : okP p
  · rw [if_pos hp, if_pos hp]
    exact hF_congr _ _ _ p hp (by have := hp.2; omega) (beneath_with hs h)
  · rw [if_neg hp, if_neg hp]
theorem filt_one (P : Nat → Bool) (d : Nat) : ∀ n, (∀ i, i < n → P i = true → i = d) → (List.range n).filter P = [] ∨ (List.range n).filter P = [d]
  | 0, _ => .inl rfl
  | n + 1, h => by
    rw [List.range_succ, List.filter_append]
    cases hP : P n
    · rcases filt_one P d n (fun i hi => h i (by omega)) with e | e
      · left; rw [e]; simp [hP]
      · right; rw [e]; simp [hP]
    · right
      have hd := h n (by omega) hP
      have e : (List.range n).filter P = [] := by
        rw [List.filter_eq_nil_iff]
        intro i hi hPi
        have := h i (by have := List.mem_range.1 hi; omega) hPi
        have := List.mem_range.1 hi
        omega
      rw [e, ← hd]
      simp [hP]
theorem kids_at {L : List Rc} {q : List Int} (hq : okP q ∧ q.length < 2) {i : Nat} (hi : i < 16) : (kidsF L q).getD i 0 = hashF L (q ++ [(i : Int)]) := by
  unfold kidsF
  rw [if_pos hq, List.getD_eq_getElem?_getD, List.getElem?_map, List.getElem?_range hi]
  rfl
theorem diff_one {L : List Rc} (hs : Srt L) (r : Rc) {q : List Int} (hq : okP q ∧ q.length < 2) (d : Nat) (hd : ∀ i : Nat, i < 16 → inP (q ++ [(i : Int)]) r.1 = true → i = d) : diffF (kidsF L q) (kidsF (withR L r) q) = [] ∨ diffF (kidsF L q) (kidsF (withR L r) q) = [(d : Int)] := by
  unfold diffF
  rcases filt_one (fun i => !decide ((kidsF L q).getD i 0 = (kidsF (withR L r) q).getD i 0)) d 16 (fun i hi hP => hd i hi (by
    cases hin : inP (q ++ [(i : Int)]) r.1
    · rw [kids_at hq hi, kids_at hq hi, hash_with hs hin] at hP
      simp at hP
    · rfl)) with e | e
  · left; rw [e]; rfl
  · right; rw [e]; rfl
theorem diff_none {L : List Rc} (hs : Srt L) (r : Rc) {q : List Int} (hq : okP q ∧ q.length < 2) (hd : ∀ i : Nat, i < 16 → inP (q ++ [(i : Int)]) r.1 = false) : diffF (kidsF L q) (kidsF (withR L r) q) = [] := by
  unfold diffF
  rw [List.map_eq_nil_iff, List.filter_eq_nil_iff]
  intro i hi hP
  have hi := List.mem_range.1 hi
  rw [kids_at hq hi, kids_at hq hi, hash_with hs (hd i hi)] at hP
  simp at hP
theorem diff_top {L : List Rc} (hs : Srt L) (r : Rc) : diffF (kidsF L []) (kidsF (withR L r) []) = [] ∨ diffF (kidsF L []) (kidsF (withR L r) []) = [dig0 r.1] := by
  have h0 := dig0_range r.1
  have h := diff_one hs r (q := []) ⟨by decide, by decide⟩ (dig0 r.1).toNat fun i hi hin => by
    simp [inP] at hin
    omega
  rwa [Int.toNat_of_nonneg h0.1] at h
theorem diff_sub {L : List Rc} (hs : Srt L) (r : Rc) {p : Nat} (hp : p < 16) : diffF (kidsF L [(p : Int)]) (kidsF (withR L r) [(p : Int)]) = [] ∨ (dig0 r.1 = (p : Int) ∧ diffF (kidsF L [(p : Int)]) (kidsF (withR L r) [(p : Int)]) = [dig1 r.1]) := by
  have h1 := dig1_range r.1
  have hq : okP [(p : Int)] ∧ [(p : Int)].length < 2 := ⟨ok_one.2 (by omega), by simp⟩
  by_cases hd : dig0 r.1 = (p : Int)
  · have h := diff_one hs r hq (dig1 r.1).toNat fun i hi hin => by
      simp [inP] at hin
      omega
    rw [Int.toNat_of_nonneg h1.1] at h
    rcases h with h | h
    · exact .inl h
    · exact .inr ⟨hd, h⟩
  · exact .inl (diff_none hs r hq fun i hi => by simp [inP, hd])
/-- What Differ tells of the two. -/
theorem own_one {w : World} {base : Nat} {A : Option Addr} {c : Nat} {x : Int} (h : w.ownsRow base 3 1 (.slice A 1 c) 1 (nums .i64 [x])) : ∃ g o, A = some ⟨g, o, none⟩ ∧ w.cell? ⟨g, o, none⟩ = some (.int .i64 x) := by
  obtain ⟨b, off, e, hl, hc⟩ := own_ns (zs := [x]) h (by simp)
  exact ⟨b, off, e, by simpa using hc 0 (by simp)⟩
theorem dN {w : World} {q : Nat} {a : Addr} : (w.drewN q).cell? a = w.cell? a := rfl
set_option maxRecDepth 100000 in
set_option maxHeartbeats 16000000 in
theorem walk (w : World) (A : Option Addr) (c : Nat) (l : List Rc) (hl : Rs w 0 w.heap.size A l) (hb : l.length * 40 ≤ 140737488351232) (_hlc : l.length ≤ c) (key : Nm) (lv : List Vr) (Av : Option Addr) (cv : Nat) (hv : Vs w 0 w.heap.size Av lv) (hvb : lv.length ≤ 140737488355328) (hkb : key.size ≤ 140737488355328) :
    Calls Tryz.prog 6 #[.slice A l.length c, .agg #[.string key, .slice Av lv.length cv]] w fun e w' => e = .returned (.bool true) ∧ Below w.heap.size w w' := by
  obtain ⟨n, hn⟩ : ∃ n, l.length = n := ⟨_, rfl⟩
  obtain ⟨m, hm⟩ : ∃ m, lv.length = m := ⟨_, rfl⟩
  rw [hn] at hb ⊢
  rw [hm] at hvb ⊢
  obtain ⟨rb, hrb⟩ : ∃ rb, w.heap.size = rb := ⟨_, rfl⟩
  obtain ⟨U, hU⟩ : ∃ U, w.alloc (.cells #[.string key, .slice Av m cv] 45) = U := ⟨_, rfl⟩
  have bU : Below w.heap.size w U := by rw [← hU]; exact (Below.refl _ w).alloc (Nat.le_refl _) _
  have BU : Blk.Bn rb 45 [.string key, .slice Av m cv] U := by rw [← hU, ← hrb]; exact World.alloc_heap_new _ _
  have HZ := Lib.hid (And.intro hl (And.intro hn (And.intro hv (And.intro hm (And.intro bU (And.intro BU (And.intro hvb hkb)))))))
  have H0 := Lib.hid (awake_any U)
  clear hl hn hv hm bU BU
  have HC : Hid (∀ W, Below U.heap.size U W → W.cell? ⟨rb, 0, none⟩ = some (.string key) ∧ W.cell? ⟨rb, 1, none⟩ = some (.slice Av m cv)) := Lib.hid fun W hW => by
    have hB1 := HZ.out.2.2.2.2.2.1.same (hW.block rb HZ.out.2.2.2.2.2.1.lt)
    have x0 := hB1.cell 0
    have x1 := hB1.cell 1
    simp only [List.getElem?_cons_zero, List.getElem?_cons_succ] at x0 x1
    exact ⟨x0, x1⟩
  go_enter Tryz.func6, Tryz.ntmps6
  go_wp2_with fail
  clear hU
  refine H0.out.mono ?_
  rintro e1 w1 ⟨rfl, b1⟩
  have HB1 := Lib.hid b1
  obtain ⟨x0, x1⟩ := HC.out _ b1
  have H1 := refrecord_any Av cv m key lv HZ.out.2.2.2.1 hvb hkb w1 ((HZ.out.2.2.1.below (HZ.out.2.2.2.2.1.trans (b1.mono HZ.out.2.2.2.2.1.size))).more (Nat.le_trans HZ.out.2.2.2.2.1.size b1.size))
  clear b1 H0
  by_cases hok : okR (key, lv)
  · rw [decide_eq_true hok] at H1
    have H1 := Lib.hid H1
    have HOK := Lib.hid hok
    clear hok
    go_wp2_with fail
    refine H1.out.mono ?_
    rintro e2 w2 ⟨rfl, b2⟩
    have b2' : Below U.heap.size U w2 := HB1.out.trans (b2.mono HB1.out.size)
    have H2 := Lib.hid (built_tw A c n l HZ.out.2.1 (by omega) U w2 b2' ((HZ.out.1.below HZ.out.2.2.2.2.1).more HZ.out.2.2.2.2.1.size))
    have HB2 := Lib.hid b2'
    clear b2 b2' H1 x0 x1
    go_wp2_with fail
    refine H2.out.mono ?_
    rintro e3 w3 ⟨tb1, A1, n1, c1, rfl, hn1, h3⟩
    have H3 := Lib.hid (built_tw A c n l HZ.out.2.1 (by omega) U w3 h3.out.2.1.old ((HZ.out.1.below HZ.out.2.2.2.2.1).more HZ.out.2.2.2.2.1.size))
    clear H2
    unfold hd
    go_wp2_with fail
    refine H3.out.mono ?_
    rintro e4 w4 ⟨tb2, A2, n2, c2, rfl, hn2, h4⟩
    obtain ⟨L, hL⟩ : ∃ L, layG l = L := ⟨_, rfl⟩
    rw [hL] at h3 h4
    have HL := Lib.hid h3.out.1
    have T4 := Lib.hid (Two.start HB2.out.size h3.out.2.1 h4.out.2.1 h4.out.2.2 h3.out.2.2.size)
    have HS := Lib.hid T4.out.ok1.1
    have hold := T4.out.old
    obtain ⟨x0, x1⟩ := HC.out _ hold
    have hw4 := HZ.out.2.2.2.2.1.trans (hold.mono HZ.out.2.2.2.2.1.size)
    have H4 := T4.out.set (by have := HL.out; omega) key Av cv m lv HZ.out.2.2.2.1 ((HZ.out.2.2.1.below hw4).more hw4.size) HOK.out rfl
    obtain ⟨B1, hB1⟩ : ∃ B, w2.heap.size = B := ⟨_, rfl⟩
    obtain ⟨B2, hB2⟩ : ∃ B, w3.heap.size = B := ⟨_, rfl⟩
    obtain ⟨L', hL'⟩ : ∃ L', withR L (key, lv) = L' := ⟨_, rfl⟩
    have HL' : Hid (L'.length ≤ n1 + 1) := Lib.hid (by rw [← hL', ← HL.out]; exact with_len _ _)
    have HD0 : Hid (diffF (kidsF L []) (kidsF L' []) = [] ∨ diffF (kidsF L []) (kidsF L' []) = [dig0 key]) := Lib.hid (by rw [← hL']; exact diff_top HS.out (key, lv))
    have HD1 : Hid (∀ p : Nat, p < 16 → diffF (kidsF L [(p : Int)]) (kidsF L' [(p : Int)]) = [] ∨ (dig0 key = (p : Int) ∧ diffF (kidsF L [(p : Int)]) (kidsF L' [(p : Int)]) = [dig1 key])) := Lib.hid (by rw [← hL']; exact fun p hp => diff_sub HS.out (key, lv) hp)
    rw [hB1, hB2, hL'] at H4
    have H4 := Lib.hid H4
    clear h3 h4 H3 hL hold hw4 T4 hB1 hB2 hL' HB1 HB2
    unfold hd
    go_wp2_with fail
    refine H4.out.mono ?_
    rintro e5 w5 ⟨rfl, T5⟩
    obtain ⟨x0, x1⟩ := HC.out _ T5.out.old
    have H5 := Lib.hid (place_any key w5 hkb)
    clear H4
    go_wp2_with fail
    refine H5.out.mono ?_
    rintro e6 w6 ⟨g6, rfl, h6, b6⟩
    have T6 := Lib.hid (T5.out.below b6)
    have HG : Hid (Ns .i64 w6 w6.heap.size (some ⟨g6, 0, none⟩) [dig0 key, dig1 key] ∧ g6 < w6.heap.size ∧ g6 ≠ tb1 ∧ g6 ≠ tb2) := Lib.hid ⟨h6.out.1, by
      obtain ⟨b, o, hb, hl, _⟩ := h6.out.1 (by simp)
      injection hb with hb; injection hb with hb; rw [hb]; exact hl, by have := T5.out.lt1.1; have := h6.out.2; omega, by have := T5.out.lt1.2; have := h6.out.2; omega⟩
    have H6 := Lib.hid (T6.out.kids1 (by have := HL.out; omega) none 0 0 [] rfl (by omega) ns_nil)
    clear h6 b6 H5 T5 x0 x1
    go_wp2_with fail
    refine H6.out.mono ?_
    rintro e7 w7 ⟨A7, m7, c7, rfl, h7⟩
    have HM7 := Lib.hid h7.out.1
    have HC7 := Lib.hid h7.out.2.2.2.2
    have H7 := Lib.hid (h7.out.2.2.2.1.kids2 (by have := HL'.out; omega) A7 (kidsF L []) h7.out.2.1 (fun a h0 => h7.out.2.2.1 a (by rw [← h7.out.1]; exact h0)) none 0 0 [] rfl (by omega) ns_nil)
    clear h7 H6
    go_wp2_with fail
    refine H7.out.mono ?_
    rintro e8 w8 ⟨A8, m8, c8, rfl, h8⟩
    have H8 := Lib.hid (differ_any A7 A8 c7 c8 m7 m8 _ _ HM7.out h8.out.1 w8 h8.out.2.2.1 h8.out.2.1)
    have T8 := Lib.hid h8.out.2.2.2.1
    have HG8 : Hid (w8.cell? ⟨g6, 0, none⟩ = some (.int .i64 (dig0 key)) ∧ w8.cell? ⟨g6, 1, none⟩ = some (.int .i64 (dig1 key)) ∧ g6 < w8.heap.size) := Lib.hid (by
      obtain ⟨b, o, hb, hl, hcc⟩ := HG.out.1 (by simp)
      injection hb with hb; injection hb with hb ho; subst hb ho
      have q0 := hcc 0 (by simp)
      have q1 := hcc 1 (by simp)
      have hl7 := Nat.lt_of_lt_of_le hl HC7.out.size
      exact ⟨(World.cell?_of_block (h8.out.2.2.2.2.block g6 hl7 HG.out.2.2.2)).trans ((World.cell?_of_block (HC7.out.block g6 hl HG.out.2.2.1)).trans q0), (World.cell?_of_block (h8.out.2.2.2.2.block g6 hl7 HG.out.2.2.2)).trans ((World.cell?_of_block (HC7.out.block g6 hl HG.out.2.2.1)).trans q1), Nat.lt_of_lt_of_le hl7 h8.out.2.2.2.2.size⟩)
    clear h8 H7
    go_wp2_with fail
    refine H8.out.mono ?_
    rintro e9 w9 ⟨A9, m9, c9, rfl, h9, b9⟩
    have T9 := Lib.hid (T8.out.below b9)
    have HG9 : Hid (w9.cell? ⟨g6, 0, none⟩ = some (.int .i64 (dig0 key)) ∧ w9.cell? ⟨g6, 1, none⟩ = some (.int .i64 (dig1 key)) ∧ g6 < w9.heap.size) := Lib.hid ⟨(World.cell?_of_block (b9.block g6 HG8.out.2.2)).trans HG8.out.1, (World.cell?_of_block (b9.block g6 HG8.out.2.2)).trans HG8.out.2.1, Nat.lt_of_lt_of_le HG8.out.2.2 b9.size⟩
    obtain ⟨z0, z1, _⟩ := HG9.out
    obtain ⟨y0, hy0⟩ : ∃ y, dig0 key = y := ⟨_, rfl⟩
    obtain ⟨y1, hy1⟩ : ∃ y, dig1 key = y := ⟨_, rfl⟩
    rw [hy0] at z0 HD0 HD1 HG9 HG8
    rw [hy1] at z1 HD1 HG9 HG8
    have HNE := Lib.hid (And.intro HG.out.2.2.1 HG.out.2.2.2)
    clear b9 H8 T8 HC7 HG8 HG hy0 hy1
    rcases HD0.out with hd | hd
    · rw [hd] at h9
      have e9 : 0 = m9 := h9.out.1
      subst e9
      clear h9 hd
      go_wp2_with fail
      go_quiet (fail)
      have HI : Hid (Two U B1 tb1 L (.slice A1 n1 c1) B2 tb2 L' L (.slice A2 n2 c2) (w9.drewN nq) ∧ (w9.drewN nq).cell? ⟨g6, 0, none⟩ = some (.int .i64 y0) ∧ (w9.drewN nq).cell? ⟨g6, 1, none⟩ = some (.int .i64 y1) ∧ g6 < (w9.drewN nq).heap.size) := Lib.hid ⟨T9.out.drewN nq, HG9.out⟩
      clear z0 z1
      go_wp2_with fail
      go_loopw [13] (fun q wr => ∃ i : Nat, q = .int .i64 i ∧ i ≤ 16 ∧ Hid (Two U B1 tb1 L (.slice A1 n1 c1) B2 tb2 L' L (.slice A2 n2 c2) wr ∧ wr.cell? ⟨g6, 0, none⟩ = some (.int .i64 y0) ∧ wr.cell? ⟨g6, 1, none⟩ = some (.int .i64 y1) ∧ g6 < wr.heap.size)) (fun q _ => 16 - (intOf q).toNat)
      case atStart => exact ⟨0, rfl, by omega, HI⟩
      case round =>
        clear HI
        obtain ⟨i, rfl, hi, hst⟩ := hrel
        by_cases hlt : i < 16
        · have d1 : (i : Int) < 16 := by omega
          have ba : Below wr.heap.size wr (wr.alloc (.cells #[.int .i64 i] 3)) := (Below.refl _ _).alloc (Nat.le_refl _) _
          have Ha := Lib.hid ((hst.out.1.below ba).kids1 (by have := HL.out; omega) (some ⟨wr.heap.size, 0, none⟩) 1 1 [(i : Int)] rfl (by omega) (ns_row1 wr i))
          have ga := Nat.lt_of_lt_of_le hst.out.2.2.2 ba.size
          have HGa : Hid ((wr.alloc (.cells #[.int .i64 i] 3)).cell? ⟨g6, 0, none⟩ = some (.int .i64 y0) ∧ (wr.alloc (.cells #[.int .i64 i] 3)).cell? ⟨g6, 1, none⟩ = some (.int .i64 y1) ∧ g6 < (wr.alloc (.cells #[.int .i64 i] 3)).heap.size) := Lib.hid ⟨(World.cell?_of_block (ba.block g6 hst.out.2.2.2)).trans hst.out.2.1, (World.cell?_of_block (ba.block g6 hst.out.2.2.2)).trans hst.out.2.2.1, ga⟩
          clear hst ba ga
          go_wp2_with fail
          refine Ha.out.mono ?_
          rintro ea wa ⟨Aa, ma, ca, rfl, ha⟩
          have hca := ha.out.2.2.2.2
          have bb : Below wa.heap.size wa (wa.alloc (.cells #[.int .i64 i] 3)) := (Below.refl _ _).alloc (Nat.le_refl _) _
          have gl := Nat.lt_of_lt_of_le HGa.out.2.2 hca.size
          have HGb : Hid ((wa.alloc (.cells #[.int .i64 i] 3)).cell? ⟨g6, 0, none⟩ = some (.int .i64 y0) ∧ (wa.alloc (.cells #[.int .i64 i] 3)).cell? ⟨g6, 1, none⟩ = some (.int .i64 y1) ∧ g6 < (wa.alloc (.cells #[.int .i64 i] 3)).heap.size) := Lib.hid ⟨(World.cell?_of_block (bb.block g6 gl)).trans ((World.cell?_of_block (hca.block g6 HGa.out.2.2 HNE.out.1)).trans HGa.out.1), (World.cell?_of_block (bb.block g6 gl)).trans ((World.cell?_of_block (hca.block g6 HGa.out.2.2 HNE.out.1)).trans HGa.out.2.1), Nat.lt_of_lt_of_le gl bb.size⟩
          have Hb := Lib.hid ((ha.out.2.2.2.1.below bb).kids2 (by have := HL'.out; omega) Aa (kidsF L [(i : Int)]) ((ha.out.2.1.below bb).more bb.size) (fun a h0 => ha.out.2.2.1 a (by rw [← ha.out.1]; exact h0)) (some ⟨wa.heap.size, 0, none⟩) 1 1 [(i : Int)] rfl (by omega) (ns_row1 wa i))
          have HMa := Lib.hid ha.out.1
          clear ha hca bb gl HGa Ha
          go_wp2_with fail
          refine Hb.out.mono ?_
          rintro eb wb ⟨Ab, mb, cb, rfl, hb9⟩
          have hcb := hb9.out.2.2.2.2
          have HGc : Hid (wb.cell? ⟨g6, 0, none⟩ = some (.int .i64 y0) ∧ wb.cell? ⟨g6, 1, none⟩ = some (.int .i64 y1) ∧ g6 < wb.heap.size) := Lib.hid ⟨(World.cell?_of_block (hcb.block g6 HGb.out.2.2 HNE.out.2)).trans HGb.out.1, (World.cell?_of_block (hcb.block g6 HGb.out.2.2 HNE.out.2)).trans HGb.out.2.1, Nat.lt_of_lt_of_le HGb.out.2.2 hcb.size⟩
          have Hc := Lib.hid (differ_any Aa Ab ca cb ma mb _ _ HMa.out hb9.out.1 wb hb9.out.2.2.1 hb9.out.2.1)
          have Tb := Lib.hid hb9.out.2.2.2.1
          clear hb9 hcb HGb Hb
          go_wp2_with fail
          refine Hc.out.mono ?_
          rintro ec wc ⟨Ac, mc, cc, rfl, hc, bc⟩
          have HI : Hid (∀ q, Two U B1 tb1 L (.slice A1 n1 c1) B2 tb2 L' L (.slice A2 n2 c2) (wc.drewN q) ∧ (wc.drewN q).cell? ⟨g6, 0, none⟩ = some (.int .i64 y0) ∧ (wc.drewN q).cell? ⟨g6, 1, none⟩ = some (.int .i64 y1) ∧ g6 < (wc.drewN q).heap.size) := Lib.hid fun q => ⟨(Tb.out.below bc).drewN q, (World.cell?_of_block (bc.block g6 HGc.out.2.2)).trans HGc.out.1, (World.cell?_of_block (bc.block g6 HGc.out.2.2)).trans HGc.out.2.1, Nat.lt_of_lt_of_le HGc.out.2.2 bc.size⟩
          obtain ⟨_, z0, z1, _⟩ := HI.out 0
          have z0 : wc.cell? ⟨g6, 0, none⟩ = some (.int .i64 y0) := z0
          have z1 : wc.cell? ⟨g6, 1, none⟩ = some (.int .i64 y1) := z1
          clear bc Hc Tb HGc
          rcases HD1.out i hlt with hd2 | ⟨hy, hd2⟩
          · rw [hd2] at hc
            have e9 : 0 = mc := hc.out.1
            subst e9
            clear hc hd2
            go_wp2_with fail
            go_quiet (fail)
            have HF := Lib.hid (HI.out nq)
            clear z0 z1
            go_wp2_with fail
            go_roundw
            case rel => exact ⟨i + 1, by go_num, by omega, HF⟩
            case measure => simp only [intOf]; omega
          · rw [hd2] at hc
            have e9 : 1 = mc := hc.out.1
            subst e9
            obtain ⟨gc, oc, rfl, yc⟩ := own_one hc.out.2.2
            have z0' := z0
            rw [hy] at z0'
            clear hc hd2 z0 hy
            go_wp2_with fail
            go_quiet (fail)
            have HF := Lib.hid (HI.out nq)
            clear z0' z1 yc
            go_wp2_with fail
            go_roundw
            case rel => exact ⟨i + 1, by go_num, by omega, HF⟩
            case measure => simp only [intOf]; omega
        · have d1 : ¬ (i : Int) < 16 := by omega
          have HE := Lib.hid (HZ.out.2.2.2.2.1.trans (hst.out.1.old.mono HZ.out.2.2.2.2.1.size))
          clear hst
          go_wp2_with fail
          go_ret
          exact ⟨rfl, by rw [← hrb]; exact HE.out⟩
    · rw [hd] at h9
      have e9 : 1 = m9 := h9.out.1
      subst e9
      obtain ⟨g9, o9, rfl, y9⟩ := own_one h9.out.2.2
      clear h9 hd
      go_wp2_with fail
      go_quiet (fail)
      have HI : Hid (Two U B1 tb1 L (.slice A1 n1 c1) B2 tb2 L' L (.slice A2 n2 c2) (w9.drewN nq) ∧ (w9.drewN nq).cell? ⟨g6, 0, none⟩ = some (.int .i64 y0) ∧ (w9.drewN nq).cell? ⟨g6, 1, none⟩ = some (.int .i64 y1) ∧ g6 < (w9.drewN nq).heap.size) := Lib.hid ⟨T9.out.drewN nq, HG9.out⟩
      clear z0 z1
      go_wp2_with fail
      go_loopw [13] (fun q wr => ∃ i : Nat, q = .int .i64 i ∧ i ≤ 16 ∧ Hid (Two U B1 tb1 L (.slice A1 n1 c1) B2 tb2 L' L (.slice A2 n2 c2) wr ∧ wr.cell? ⟨g6, 0, none⟩ = some (.int .i64 y0) ∧ wr.cell? ⟨g6, 1, none⟩ = some (.int .i64 y1) ∧ g6 < wr.heap.size)) (fun q _ => 16 - (intOf q).toNat)
      case atStart => exact ⟨0, rfl, by omega, HI⟩
      case round =>
        clear HI
        obtain ⟨i, rfl, hi, hst⟩ := hrel
        by_cases hlt : i < 16
        · have d1 : (i : Int) < 16 := by omega
          have ba : Below wr.heap.size wr (wr.alloc (.cells #[.int .i64 i] 3)) := (Below.refl _ _).alloc (Nat.le_refl _) _
          have Ha := Lib.hid ((hst.out.1.below ba).kids1 (by have := HL.out; omega) (some ⟨wr.heap.size, 0, none⟩) 1 1 [(i : Int)] rfl (by omega) (ns_row1 wr i))
          have ga := Nat.lt_of_lt_of_le hst.out.2.2.2 ba.size
          have HGa : Hid ((wr.alloc (.cells #[.int .i64 i] 3)).cell? ⟨g6, 0, none⟩ = some (.int .i64 y0) ∧ (wr.alloc (.cells #[.int .i64 i] 3)).cell? ⟨g6, 1, none⟩ = some (.int .i64 y1) ∧ g6 < (wr.alloc (.cells #[.int .i64 i] 3)).heap.size) := Lib.hid ⟨(World.cell?_of_block (ba.block g6 hst.out.2.2.2)).trans hst.out.2.1, (World.cell?_of_block (ba.block g6 hst.out.2.2.2)).trans hst.out.2.2.1, ga⟩
          clear hst ba ga
          go_wp2_with fail
          refine Ha.out.mono ?_
          rintro ea wa ⟨Aa, ma, ca, rfl, ha⟩
          have hca := ha.out.2.2.2.2
          have bb : Below wa.heap.size wa (wa.alloc (.cells #[.int .i64 i] 3)) := (Below.refl _ _).alloc (Nat.le_refl _) _
          have gl := Nat.lt_of_lt_of_le HGa.out.2.2 hca.size
          have HGb : Hid ((wa.alloc (.cells #[.int .i64 i] 3)).cell? ⟨g6, 0, none⟩ = some (.int .i64 y0) ∧ (wa.alloc (.cells #[.int .i64 i] 3)).cell? ⟨g6, 1, none⟩ = some (.int .i64 y1) ∧ g6 < (wa.alloc (.cells #[.int .i64 i] 3)).heap.size) := Lib.hid ⟨(World.cell?_of_block (bb.block g6 gl)).trans ((World.cell?_of_block (hca.block g6 HGa.out.2.2 HNE.out.1)).trans HGa.out.1), (World.cell?_of_block (bb.block g6 gl)).trans ((World.cell?_of_block (hca.block g6 HGa.out.2.2 HNE.out.1)).trans HGa.out.2.1), Nat.lt_of_lt_of_le gl bb.size⟩
          have Hb := Lib.hid ((ha.out.2.2.2.1.below bb).kids2 (by have := HL'.out; omega) Aa (kidsF L [(i : Int)]) ((ha.out.2.1.below bb).more bb.size) (fun a h0 => ha.out.2.2.1 a (by rw [← ha.out.1]; exact h0)) (some ⟨wa.heap.size, 0, none⟩) 1 1 [(i : Int)] rfl (by omega) (ns_row1 wa i))
          have HMa := Lib.hid ha.out.1
          clear ha hca bb gl HGa Ha
          go_wp2_with fail
          refine Hb.out.mono ?_
          rintro eb wb ⟨Ab, mb, cb, rfl, hb9⟩
          have hcb := hb9.out.2.2.2.2
          have HGc : Hid (wb.cell? ⟨g6, 0, none⟩ = some (.int .i64 y0) ∧ wb.cell? ⟨g6, 1, none⟩ = some (.int .i64 y1) ∧ g6 < wb.heap.size) := Lib.hid ⟨(World.cell?_of_block (hcb.block g6 HGb.out.2.2 HNE.out.2)).trans HGb.out.1, (World.cell?_of_block (hcb.block g6 HGb.out.2.2 HNE.out.2)).trans HGb.out.2.1, Nat.lt_of_lt_of_le HGb.out.2.2 hcb.size⟩
          have Hc := Lib.hid (differ_any Aa Ab ca cb ma mb _ _ HMa.out hb9.out.1 wb hb9.out.2.2.1 hb9.out.2.1)
          have Tb := Lib.hid hb9.out.2.2.2.1
          clear hb9 hcb HGb Hb
          go_wp2_with fail
          refine Hc.out.mono ?_
          rintro ec wc ⟨Ac, mc, cc, rfl, hc, bc⟩
          have HI : Hid (∀ q, Two U B1 tb1 L (.slice A1 n1 c1) B2 tb2 L' L (.slice A2 n2 c2) (wc.drewN q) ∧ (wc.drewN q).cell? ⟨g6, 0, none⟩ = some (.int .i64 y0) ∧ (wc.drewN q).cell? ⟨g6, 1, none⟩ = some (.int .i64 y1) ∧ g6 < (wc.drewN q).heap.size) := Lib.hid fun q => ⟨(Tb.out.below bc).drewN q, (World.cell?_of_block (bc.block g6 HGc.out.2.2)).trans HGc.out.1, (World.cell?_of_block (bc.block g6 HGc.out.2.2)).trans HGc.out.2.1, Nat.lt_of_lt_of_le HGc.out.2.2 bc.size⟩
          obtain ⟨_, z0, z1, _⟩ := HI.out 0
          have z0 : wc.cell? ⟨g6, 0, none⟩ = some (.int .i64 y0) := z0
          have z1 : wc.cell? ⟨g6, 1, none⟩ = some (.int .i64 y1) := z1
          clear bc Hc Tb HGc
          rcases HD1.out i hlt with hd2 | ⟨hy, hd2⟩
          · rw [hd2] at hc
            have e9 : 0 = mc := hc.out.1
            subst e9
            clear hc hd2
            go_wp2_with fail
            go_quiet (fail)
            have HF := Lib.hid (HI.out nq)
            clear z0 z1
            go_wp2_with fail
            go_roundw
            case rel => exact ⟨i + 1, by go_num, by omega, HF⟩
            case measure => simp only [intOf]; omega
          · rw [hd2] at hc
            have e9 : 1 = mc := hc.out.1
            subst e9
            obtain ⟨gc, oc, rfl, yc⟩ := own_one hc.out.2.2
            have z0' := z0
            rw [hy] at z0'
            clear hc hd2 z0 hy
            go_wp2_with fail
            go_quiet (fail)
            have HF := Lib.hid (HI.out nq)
            clear z0' z1 yc
            go_wp2_with fail
            go_roundw
            case rel => exact ⟨i + 1, by go_num, by omega, HF⟩
            case measure => simp only [intOf]; omega
        · have d1 : ¬ (i : Int) < 16 := by omega
          have HE := Lib.hid (HZ.out.2.2.2.2.1.trans (hst.out.1.old.mono HZ.out.2.2.2.2.1.size))
          clear hst
          go_wp2_with fail
          go_ret
          exact ⟨rfl, by rw [← hrb]; exact HE.out⟩
  · rw [decide_eq_false hok] at H1
    have H1 := Lib.hid H1
    clear hok
    go_wp2_with fail
    refine H1.out.mono ?_
    rintro e2 w2 ⟨rfl, b2⟩
    have H2 := Lib.hid (awake_any w2)
    have HB2 := Lib.hid (HB1.out.trans (b2.mono HB1.out.size))
    clear b2 H1 x0 x1
    go_wp2_with fail
    refine H2.out.mono ?_
    rintro e3 w3 ⟨rfl, b3⟩
    have HE : Hid (Below w.heap.size w w3) := Lib.hid (HZ.out.2.2.2.2.1.trans ((HB2.out.trans (b3.mono HB2.out.size)).mono HZ.out.2.2.2.2.1.size))
    clear b3 H2
    go_wp2_with fail
    go_ret
    exact ⟨rfl, HE.out⟩
-- ROW BEGIN
set_option maxRecDepth 100000 in
/-- What the walk gives, shut again. -/
theorem contract (H : Type) (enc : TypeId × Value → H) (W : World) (base : Nat) (args : Array Value) (ds gs : List (DataW H)) (before : List MemPlace)
    (hval : ∀ (j : Nat) t v, Tryz.f6.params[j]? = some t → args[j]? = some v → Value.okWide Tryz.prog W .any base t v)
    (hW : DataW.Whole enc Tryz.prog Tryz.f6.params.toList Rows.treeFindsSpec.vars false W args.toList ds gs before)
    (hsz : (DataW.weightsEach Tryz.prog (Tryz.f6.params.toList ++ Rows.treeFindsSpec.plain.varTypes Tryz.prog) (ds ++ gs)).all (· ≤ reachBytes) = true) :
    Calls Tryz.prog 6 args W fun e W' => ∃ v, e = .returned v ∧ Rows.treeFindsSpec.post enc Tryz.prog Tryz.f6 false true false false W args v W' := by
  have hW' := hW
  obtain ⟨p, q, hA0, hV, hbef, _, _⟩ := hW
  have hA : DataW.TrodAll enc Tryz.prog W 0 (fun _ => true) true Tryz.f6.params.toList args.toList ds p := hA0
  have hA1 := hA
  rw [Tryz.params6] at hA hval hsz
  obtain ⟨v0, vs0, d0, ds0, p0, q0, hargs, rfl, rfl, h0, r0⟩ := trodAll_cons hA
  obtain ⟨v1, vs1, d1, ds1, p1, q1, rfl, rfl, rfl, h1, r1⟩ := trodAll_cons r0
  obtain ⟨rfl, rfl, rfl⟩ := trodAll_nil r1
  obtain rfl : args = #[v0, v1] := by cases args; simp_all
  obtain ⟨rfl, rfl⟩ := trodVars_none hV
  clear hA hargs
  obtain ⟨A0, c0, a0, rfl, n0, l0, b0⟩ := Tree.arg_recs (hval 0 22 v0 rfl rfl) h0 (Vers.wt_arg hsz (j := 0) rfl rfl)
  obtain ⟨a1, s1, A1, c1, rfl, n1, l1, b1⟩ := Tree.arg_rec (hval 1 45 v1 rfl rfl) h1 (Vers.wt_arg hsz (j := 1) rfl rfl)
  refine (walk W A0 c0 a0 n0 b0 l0 a1 s1 A1 c1 n1 l1 b1).mono fun e W' ⟨he, hb⟩ => ?_
  subst he
  exact ⟨_, rfl, law_post Facts.laid (by rfl) Tryz.underlying4 (by rw [Tryz.params6]; decide +kernel) hW' hA1 rfl hbef rfl rfl rfl hb⟩

set_option maxRecDepth 100000 in
theorem lifted (os : Os) (started : os.Started) (H : Type) (enc : TypeId × Value → H) :
    ReturnsInHanded {} Tryz.checked os 6 .any (Rows.treeFindsSpec.pre6 enc Tryz.prog Tryz.f6 Rows.treeFindsRow.domain false) (Rows.treeFindsSpec.post enc Tryz.prog Tryz.f6 false true false false) := by
  refine returnsInHanded_of_change_sized (C := Tryz.checked) Facts.own started (by kernel_rfl) Tryz.func6
    (ChangeSpec.witness6 (enc := enc) (C := Tryz.checked) false ⟨#[], #[.slice none 0 0, .agg #[.string ⟨#[]⟩, .slice none 0 0]], []⟩ 8 (by kernel_rfl) (by kernel_rfl) (by kernel_rfl) (by kernel_rfl)) ?_
  intro W base args ds gs before hval hW _ hsz _
  exact contract H enc W base args ds gs before hval hW hsz

theorem holds : Rows.TreeFindsSaid :=
  OpenClaim.holds_of_wide 6 Tryz.f6 rfl rfl rfl rfl rfl rfl rfl ⟨rfl, rfl, rfl, rfl, rfl⟩ rfl rfl rfl rfl rfl (by kernel_rfl) Tryz.func6 (by kernel_rfl)
    (of_decide_eq_true (by kernel_rfl)) (by unfold Func.isWrapper; first | (rw [if_pos (by decide +kernel)]; kernel_rfl) | (rw [if_neg (by decide +kernel)]; exact ⟨rfl, rfl⟩))
    (fun os started H enc _ => lifted os started H enc)
-- ROW END
end TreeFinds
end Go.Proofs.YtbaclinjimfncaaGreat
