/-
  TreeParts (P11.2): each record is beneath its key's place alone: the leaves together have all of them, each once. For every input.
-/
import Derived.Test.YtbaclinjimfncaaGreatTreeTwo
import Derived.Test.YtbaclinjimfncaaGreatTreeArgs
namespace Go.Proofs.YtbaclinjimfncaaGreat
namespace TreeParts
open Go.ChangeShapes Go.WideShapes Go.ChangeAt Go.RowKit Vers Num Ring Disk Blk Tree
open Go.Proofs.YtbaclinjimfncaaGreat.Code hiding Bn
attribute [local go_sem ↓] Go.wp_at_zero Go.wp_at_succ
theorem cnt_split (f g h : Rc → Bool) (hx : ∀ r, f r = (g r || h r)) (hd : ∀ r, ¬ (g r = true ∧ h r = true)) (L : List Rc) : (L.filter f).length = (L.filter g).length + (L.filter h).length := by
  induction L with
  | nil => rfl
  | cons r L ih =>
    rw [List.filter_cons, List.filter_cons, List.filter_cons, hx r]
    have hd := hd r
    cases hg : g r <;> cases hh : h r <;> simp_all <;> omega
def upQ (L : List Rc) (p q : Nat) : Nat := (L.filter fun r => decide (dig0 r.1 = (p : Int)) && decide (dig1 r.1 < (q : Int))).length
def upP (L : List Rc) (p : Nat) : Nat := (L.filter fun r => decide (dig0 r.1 < (p : Int))).length
theorem upQ_zero (L : List Rc) (p : Nat) : upQ L p 0 = 0 := by
  unfold upQ
  rw [List.length_eq_zero_iff, List.filter_eq_nil_iff]
  intro r _
  have := (dig1_range r.1).1
  simp
  omega
theorem upP_zero (L : List Rc) : upP L 0 = 0 := by
  unfold upP
  rw [List.length_eq_zero_iff, List.filter_eq_nil_iff]
  intro r _
  have := (dig0_range r.1).1
  simp
  omega
theorem upQ_succ (L : List Rc) (p q : Nat) : upQ L p (q + 1) = upQ L p q + (beneath L [(p : Int), (q : Int)]).length := by
  unfold upQ beneath
  refine cnt_split _ _ _ (fun r => ?_) (fun r => ?_) L
  · unfold inP
    by_cases h0 : dig0 r.1 = (p : Int)
    · by_cases h1 : dig1 r.1 < (q : Int)
      · simp [h0, h1]; omega
      · by_cases h2 : dig1 r.1 = (q : Int)
        · simp [h0, h2]; omega
        · simp [h0, h1, h2]; omega
    · simp [h0]
  · unfold inP
    simp
    intro _ h1 _
    omega
theorem upP_succ (L : List Rc) (p : Nat) : upP L (p + 1) = upP L p + (beneath L [(p : Int)]).length := by
  unfold upP beneath
  refine cnt_split _ _ _ (fun r => ?_) (fun r => ?_) L
  · unfold inP
    by_cases h1 : dig0 r.1 < (p : Int)
    · simp [h1]; omega
    · by_cases h2 : dig0 r.1 = (p : Int)
      · simp [h2]; omega
      · simp [h1, h2]; omega
  · unfold inP
    simp
    intro h1
    omega
theorem upQ_full (L : List Rc) (p : Nat) : upQ L p 16 = (beneath L [(p : Int)]).length := by
  unfold upQ beneath
  congr 1
  refine List.filter_congr fun r _ => ?_
  have := (dig1_range r.1).2
  unfold inP
  rw [decide_eq_true (show dig1 r.1 < ((16 : Nat) : Int) by omega), Bool.and_true]
theorem upP_full (L : List Rc) : upP L 16 = L.length := by
  unfold upP
  rw [List.filter_eq_self.2 fun r _ => decide_eq_true (by have := (dig0_range r.1).2; omega)]
theorem upQ_le (L : List Rc) (p q : Nat) : upQ L p q ≤ L.length := List.length_filter_le _ _
theorem upP_le (L : List Rc) (p : Nat) : upP L p ≤ L.length := List.length_filter_le _ _
theorem empty_hash (L : List Rc) (p q : Int) (h : (beneath L [p, q]).length = 0) : hashF L [p, q] = 0 := by
  unfold hashF
  split
  · show hF 0 L [p, q] = 0
    unfold hF
    rw [if_pos (List.eq_nil_of_length_eq_zero h)]
  · rfl
theorem recs_two (L : List Rc) {p q : Nat} (hp : p < 16) (hq : q < 16) : recsF L [(p : Int), (q : Int)] = beneath L [(p : Int), (q : Int)] := by
  unfold recsF
  rw [if_pos (ok_two.2 ⟨by omega, by omega⟩)]
theorem recs_one (L : List Rc) {p : Nat} (hp : p < 16) : recsF L [(p : Int)] = beneath L [(p : Int)] := by
  unfold recsF
  rw [if_pos (ok_one.2 (by omega))]
theorem recs_all (L : List Rc) : recsF L [] = L := by unfold recsF; rw [if_pos (by decide), beneath_nil]
theorem ns_row2 (w : World) (x y : Int) : Ns .i64 (w.alloc (.cells #[.int .i64 x, .int .i64 y] 3)) (w.alloc (.cells #[.int .i64 x, .int .i64 y] 3)).heap.size (some ⟨w.heap.size, 0, none⟩) [x, y] := fun _ =>
  ⟨w.heap.size, 0, rfl, by simp, fun j hj => by
    obtain rfl | rfl : j = 0 ∨ j = 1 := by simp at hj; omega
    all_goals simp⟩
theorem ns_row3 (w : World) (x y z : Int) : Ns .i64 (w.alloc (.cells #[.int .i64 x, .int .i64 y, .int .i64 z] 3)) (w.alloc (.cells #[.int .i64 x, .int .i64 y, .int .i64 z] 3)).heap.size (some ⟨w.heap.size, 0, none⟩) [x, y, z] := fun _ =>
  ⟨w.heap.size, 0, rfl, by simp, fun j hj => by
    obtain rfl | rfl | rfl : j = 0 ∨ j = 1 ∨ j = 2 := by simp at hj; omega
    all_goals simp⟩
theorem getD_mem {l : List Rc} {k : Nat} (hk : k < l.length) : l.getD k r0 ∈ l := by
  rw [List.getD_eq_getElem?_getD, List.getElem?_eq_getElem hk]
  exact List.getElem_mem _
theorem alB {w : World} (o : Obj) : Below w.heap.size w (w.alloc o) := (Below.refl _ _).alloc (Nat.le_refl _) _
set_option maxRecDepth 100000 in
set_option maxHeartbeats 16000000 in
theorem walk (w : World) (A : Option Addr) (c : Nat) (l : List Rc) (hl : Rs w 0 w.heap.size A l) (hb : l.length * 40 ≤ 140737488351232) (_hlc : l.length ≤ c) :
    Calls Tryz.prog 7 #[.slice A l.length c] w fun e w' => e = .returned (.bool true) ∧ Below w.heap.size w w' := by
  obtain ⟨n, hn⟩ : ∃ n, l.length = n := ⟨_, rfl⟩
  rw [hn] at hb ⊢
  have HZ := Lib.hid (And.intro hl hn)
  have H0 := Lib.hid (awake_any w)
  clear hl hn
  go_enter Tryz.func7, Tryz.ntmps7
  go_wp2_with fail
  refine H0.out.mono ?_
  rintro e1 w1 ⟨rfl, b1⟩
  have H1 := Lib.hid (built_tw A c n l HZ.out.2 (by omega) w w1 b1 HZ.out.1)
  clear b1 H0
  go_wp2_with fail
  refine H1.out.mono ?_
  rintro e2 w2 ⟨tb, Aa, na, ca, rfl, hna, h2⟩
  obtain ⟨L, hL⟩ : ∃ L, layG l = L := ⟨_, rfl⟩
  obtain ⟨B, hB⟩ : ∃ B, w1.heap.size = B := ⟨_, rfl⟩
  rw [hL, hB] at h2
  have HL := Lib.hid h2.out.1
  have HI := Lib.hid h2.out.2.1
  clear h2 H1 hL hB
  unfold hd
  go_wp2_with fail
  go_loopw [6, 7] (fun v q wr => ∃ p : Nat, q = .int .i64 p ∧ p ≤ 16 ∧ v = .int .i64 (upP L p : Nat) ∧ Hid (Tw w B tb L (.slice Aa na ca) wr)) (fun _ q _ => 16 - (intOf q).toNat)
  case atStart => exact ⟨0, rfl, by omega, by rw [upP_zero]; rfl, HI⟩
  case round =>
    clear HI
    obtain ⟨p, rfl, hp, rfl, hst⟩ := hrel
    have hup := upP_le L p
    rw [HL.out] at hup
    obtain ⟨np, hnp⟩ : ∃ x, upP L p = x := ⟨_, rfl⟩
    rw [hnp] at hup ⊢
    have HNP := Lib.hid hnp
    clear hnp
    by_cases hlt : p < 16
    · have d1 : (p : Int) < 16 := by omega
      go_wp2_with fail
      go_loopw [8, 9] (fun v q wr => ∃ k : Nat, q = .int .i64 k ∧ k ≤ 16 ∧ v = .int .i64 (upQ L p k : Nat) ∧ Hid (Tw w B tb L (.slice Aa na ca) wr)) (fun _ q _ => 16 - (intOf q).toNat)
      case atStart => exact ⟨0, rfl, by omega, by rw [upQ_zero]; rfl, hst⟩
      case round =>
        clear hst
        obtain ⟨q, rfl, hq, rfl, hst⟩ := hrel
        have huq := upQ_le L p q
        rw [HL.out] at huq
        obtain ⟨nq9, hnq⟩ : ∃ x, upQ L p q = x := ⟨_, rfl⟩
        rw [hnq] at huq ⊢
        have HNQ := Lib.hid hnq
        clear hnq
        by_cases hlt2 : q < 16
        · have d2 : (q : Int) < 16 := by omega
          have H3 := (hst.out.below (alB (.cells #[.int .i64 p, .int .i64 q] 3))).recs (by have := HL.out; omega) (some ⟨wr.heap.size, 0, none⟩) 2 2 [(p : Int), (q : Int)] rfl (by omega) (ns_row2 wr p q)
          rw [recs_two L hlt hlt2] at H3
          unfold hd at H3
          have H3 := Lib.hid H3
          clear hst
          go_wp2_with fail
          refine H3.out.mono ?_
          rintro e3 w3 ⟨A3, m3, c3, rfl, h3⟩
          obtain ⟨L3, hL3⟩ : ∃ X, beneath L [(p : Int), (q : Int)] = X := ⟨_, rfl⟩
          rw [hL3] at h3
          have HL3 := Lib.hid (And.intro hL3 h3.out.1)
          have hm3 : m3 ≤ 3518437208780 := by
            have := beneath_len L [(p : Int), (q : Int)]
            rw [hL3, h3.out.1, HL.out] at this
            omega
          have HI : Hid (Tw w B tb L (.slice Aa na ca) w3 ∧ Rs w3 0 w3.heap.size A3 L3) := Lib.hid ⟨h3.out.2.2.1, h3.out.2.1⟩
          clear h3 H3 hL3
          go_wp2_with fail
          go_loopw [11] (fun q wr => ∃ i : Nat, q = .int .i64 i ∧ i ≤ m3 ∧ Hid (Tw w B tb L (.slice Aa na ca) wr ∧ Rs wr 0 wr.heap.size A3 L3)) (fun q _ => m3 - (intOf q).toNat)
          case atStart => exact ⟨0, rfl, by omega, HI⟩
          case round =>
            clear HI
            obtain ⟨i, rfl, hi, hst⟩ := hrel
            by_cases hlt3 : i < m3
            · have d3 : (0 : Int) ≤ (i : Int) := by omega
              have d4 : (i : Int) < (m3 : Int) := by omega
              obtain ⟨pb, off, A4, c4, rfl, _, hbB, k0, k1, k2, k3⟩ := hst.out.2.at HL3.out.2 (Below.refl _ _) hlt3 rfl
              have hmem := getD_mem (l := L3) (k := i) (by have := HL3.out.2; omega)
              obtain ⟨r, hrr⟩ : ∃ r, L3.getD i r0 = r := ⟨_, rfl⟩
              rw [hrr] at k0 k1 k2 k3 hmem
              obtain ⟨key', lv'⟩ := r
              simp only at k0 k1 k2 k3
              rw [← HL3.out.1] at hmem
              have hin := (beneath_mem.1 hmem).2
              have HD : Hid (dig0 key' = (p : Int) ∧ dig1 key' = (q : Int)) := Lib.hid (by simpa [inP] using hin)
              have H4 := Lib.hid (place_any key' wr k3.2.2)
              clear k1 k2 k3 hmem hin hrr
              go_wp2_with fail
              refine H4.out.mono ?_
              rintro e4 w4 ⟨g4, rfl, h4, b4⟩
              have h41 := h4.out.1
              rw [HD.out.1, HD.out.2] at h41
              have b5 : Below w4.heap.size w4 (w4.alloc (.cells #[.int .i64 p, .int .i64 q] 3)) := alB _
              have H5 := sints_any (some ⟨g4, 0, none⟩) (some ⟨w4.heap.size, 0, none⟩) 2 2 2 2 [(p : Int), (q : Int)] [(p : Int), (q : Int)] rfl rfl _ ((h41.below b5).more b5.size) (ns_row2 w4 p q) (by omega) (by omega)
              rw [decide_eq_true rfl] at H5
              have H5 := Lib.hid H5
              have b45 := b4.trans (b5.mono b4.size)
              have HT : Hid (∀ W, Below (w4.alloc (.cells #[.int .i64 p, .int .i64 q] 3)).heap.size (w4.alloc (.cells #[.int .i64 p, .int .i64 q] 3)) W → Tw w B tb L (.slice Aa na ca) W ∧ Rs W 0 W.heap.size (some ⟨pb, off, none⟩) L3) := Lib.hid fun W hW => by
                have hb := b45.trans (hW.mono b45.size)
                exact ⟨hst.out.1.below hb, (hst.out.2.below hb).more hb.size⟩
              clear hst h4 h41 b4 b5 b45 H4
              go_wp2_with fail
              refine H5.out.mono ?_
              rintro e5 w5 ⟨rfl, b5⟩
              have HF := Lib.hid (HT.out w5 b5)
              clear b5 H5 HT
              go_wp2_with fail
              go_roundw
              case rel => exact ⟨i + 1, by go_num, by omega, HF⟩
              case measure => simp only [intOf]; omega
            · have him : i = m3 := by omega
              subst him
              have H6 := (hst.out.1.below (alB (.cells #[.int .i64 p, .int .i64 q] 3))).hash (by have := HL.out; omega) (some ⟨wr.heap.size, 0, none⟩) 2 2 [(p : Int), (q : Int)] rfl (by omega) (ns_row2 wr p q)
              obtain ⟨x, hx⟩ : ∃ x, hashF L [(p : Int), (q : Int)] = x := ⟨_, rfl⟩
              have hx0 : i = 0 → x = 0 := fun h => by
                rw [← hx]
                refine empty_hash L _ _ ?_
                rw [HL3.out.1, HL3.out.2, h]
              rw [hx] at H6
              unfold hd at H6
              have H6 := Lib.hid H6
              have f3 : IntKind.i64.wrap ((nq9 : Int) + (i : Int)) = ((nq9 + i : Nat) : Int) := (Go.IntWalk.i64_in _ (by omega)).trans (by omega)
              have HS : Hid (upQ L p (q + 1) = nq9 + i) := Lib.hid (by rw [upQ_succ, HNQ.out, HL3.out.1, HL3.out.2])
              clear hst hx
              by_cases h0 : i = 0
              · have hxx := hx0 h0
                subst hxx
                have g1 : ((i : Int) == 0) = true := by simp [h0]
                clear h0 hx0
                go_wp2_with fail
                refine H6.out.mono ?_
                rintro e6 w6 ⟨rfl, HF⟩
                clear H6
                go_wp2_with fail
                go_roundw
                case rel => exact ⟨q + 1, by go_num, by omega, by first | (rw [HS.out]; done) | (rw [HS.out]; simp), HF⟩
                case measure => simp only [intOf]; omega
              · have g1 : ((i : Int) == 0) = false := by simp [h0]
                obtain ⟨b, hb2⟩ : ∃ b, (x == 0) = b := ⟨_, rfl⟩
                clear h0 hx0
                go_wp2_with fail
                refine H6.out.mono ?_
                rintro e6 w6 ⟨rfl, HF⟩
                clear H6
                cases b
                · go_wp2_with fail
                  go_roundw
                  case rel => exact ⟨q + 1, by go_num, by omega, by first | (rw [HS.out]; done) | (rw [HS.out]; simp), HF⟩
                  case measure => simp only [intOf]; omega
                · go_wp2_with fail
                  go_roundw
                  case rel => exact ⟨q + 1, by go_num, by omega, by first | (rw [HS.out]; done) | (rw [HS.out]; simp), HF⟩
                  case measure => simp only [intOf]; omega
        · have hqm : q = 16 := by omega
          subst hqm
          have H7 := (hst.out.below (alB (.cells #[.int .i64 p] 3))).recs (by have := HL.out; omega) (some ⟨wr.heap.size, 0, none⟩) 1 1 [(p : Int)] rfl (by omega) (ns_row1 wr p)
          rw [recs_one L hlt, ← upQ_full, HNQ.out] at H7
          unfold hd at H7
          have H7 := Lib.hid H7
          have HS : Hid (upP L (p + 1) = np + nq9) := Lib.hid (by rw [upP_succ, HNP.out, ← upQ_full, HNQ.out])
          have hsum := upP_le L (p + 1)
          rw [HS.out, HL.out] at hsum
          have f3 : IntKind.i64.wrap ((np : Int) + (nq9 : Int)) = ((np + nq9 : Nat) : Int) := (Go.IntWalk.i64_in _ (by omega)).trans (by omega)
          clear hst
          go_wp2_with fail
          refine H7.out.mono ?_
          rintro e7 w7 ⟨A7, m7, c7, rfl, h7⟩
          have e9 : nq9 = m7 := h7.out.1
          have HF := Lib.hid h7.out.2.2.1
          subst e9
          clear h7 H7
          go_wp2_with fail
          go_roundw
          case rel => exact ⟨p + 1, by go_num, by omega, by first | (rw [HS.out]; done) | (rw [HS.out]; simp), HF⟩
          case measure => simp only [intOf]; omega
    · have hpm : p = 16 := by omega
      subst hpm
      have e1 : np = na := by rw [← HNP.out, upP_full]; exact HL.out
      subst e1
      have H8 := hst.out.recs (by have := HL.out; omega) none 0 0 [] rfl (by omega) ns_nil
      rw [recs_all] at H8
      unfold hd at H8
      have H8 := Lib.hid H8
      clear hst
      go_wp2_with fail
      refine H8.out.mono ?_
      rintro e8 w8 ⟨A8, m8, c8, rfl, h8⟩
      have e2 : np = m8 := HL.out.symm.trans h8.out.1
      have H9 := (h8.out.2.2.1.below (alB (.cells #[.int .i64 0, .int .i64 0, .int .i64 0] 3))).recs (by have := HL.out; omega) (some ⟨w8.heap.size, 0, none⟩) 3 3 [0, 0, 0] rfl (by omega) (ns_row3 w8 0 0 0)
      rw [show recsF L [0, 0, 0] = [] from rfl] at H9
      unfold hd at H9
      have H9 := Lib.hid H9
      subst e2
      clear h8 H8
      go_wp2_with fail
      refine H9.out.mono ?_
      rintro e9 w9 ⟨A9, m9, c9, rfl, h9⟩
      have e3 : 0 = m9 := h9.out.1
      have Ha := (h9.out.2.2.1.below (alB (.cells #[.int .i64 16] 3))).recs (by have := HL.out; omega) (some ⟨w9.heap.size, 0, none⟩) 1 1 [16] rfl (by omega) (ns_row1 w9 16)
      rw [show recsF L [16] = [] from rfl] at Ha
      unfold hd at Ha
      have Ha := Lib.hid Ha
      subst e3
      clear h9 H9
      go_wp2_with fail
      refine Ha.out.mono ?_
      rintro ea wa ⟨Ab, ma, cb, rfl, ha⟩
      have e4 : 0 = ma := ha.out.1
      have Hb := (ha.out.2.2.1.below (alB (.cells #[.int .i64 1, .int .i64 2] 3))).kids (by have := HL.out; omega) (some ⟨wa.heap.size, 0, none⟩) 2 2 [1, 2] rfl (by omega) (ns_row2 wa 1 2)
      rw [show kidsF L [1, 2] = [] from rfl] at Hb
      unfold hd at Hb
      have Hb := Lib.hid Hb
      subst e4
      clear ha Ha
      go_wp2_with fail
      refine Hb.out.mono ?_
      rintro eb wb ⟨Ac, mb, cc, rfl, hb9⟩
      have e5 : 0 = mb := hb9.out.1
      have Hc := (hb9.out.2.2.below (alB (.cells #[.int .i64 (-1)] 3))).hash (by have := HL.out; omega) (some ⟨wb.heap.size, 0, none⟩) 1 1 [-1] rfl (by omega) (ns_row1 wb (-1))
      rw [show hashF L [-1] = 0 from rfl] at Hc
      unfold hd at Hc
      have Hc := Lib.hid Hc
      subst e5
      clear hb9 Hb
      go_wp2_with fail
      refine Hc.out.mono ?_
      rintro ec wc ⟨rfl, hc⟩
      have HE := Lib.hid hc.out.old
      clear hc Hc
      go_wp2_with fail
      go_ret
      exact ⟨rfl, HE.out⟩
-- ROW BEGIN
set_option maxRecDepth 100000 in
/-- What the walk gives, shut again. -/
theorem contract (H : Type) (enc : TypeId × Value → H) (W : World) (base : Nat) (args : Array Value) (ds gs : List (DataW H)) (before : List MemPlace)
    (hval : ∀ (j : Nat) t v, Tryz.f7.params[j]? = some t → args[j]? = some v → Value.okWide Tryz.prog W .any base t v)
    (hW : DataW.Whole enc Tryz.prog Tryz.f7.params.toList Rows.treePartsSpec.vars false W args.toList ds gs before)
    (hsz : (DataW.weightsEach Tryz.prog (Tryz.f7.params.toList ++ Rows.treePartsSpec.plain.varTypes Tryz.prog) (ds ++ gs)).all (· ≤ reachBytes) = true) :
    Calls Tryz.prog 7 args W fun e W' => ∃ v, e = .returned v ∧ Rows.treePartsSpec.post enc Tryz.prog Tryz.f7 false true false false W args v W' := by
  have hW' := hW
  obtain ⟨p, q, hA0, hV, hbef, _, _⟩ := hW
  have hA : DataW.TrodAll enc Tryz.prog W 0 (fun _ => true) true Tryz.f7.params.toList args.toList ds p := hA0
  have hA1 := hA
  rw [Tryz.params7] at hA hval hsz
  obtain ⟨v0, vs0, d0, ds0, p0, q0, hargs, rfl, rfl, h0, r0⟩ := trodAll_cons hA
  obtain ⟨rfl, rfl, rfl⟩ := trodAll_nil r0
  obtain rfl : args = #[v0] := by cases args; simp_all
  obtain ⟨rfl, rfl⟩ := trodVars_none hV
  clear hA hargs
  obtain ⟨A0, c0, a0, rfl, n0, l0, b0⟩ := Tree.arg_recs (hval 0 22 v0 rfl rfl) h0 (Vers.wt_arg hsz (j := 0) rfl rfl)
  refine (walk W A0 c0 a0 n0 b0 l0).mono fun e W' ⟨he, hb⟩ => ?_
  subst he
  exact ⟨_, rfl, law_post Facts.laid (by rfl) Tryz.underlying4 (by rw [Tryz.params7]; decide +kernel) hW' hA1 rfl hbef rfl rfl rfl hb⟩

set_option maxRecDepth 100000 in
theorem lifted (os : Os) (started : os.Started) (H : Type) (enc : TypeId × Value → H) :
    ReturnsInHanded {} Tryz.checked os 7 .any (Rows.treePartsSpec.pre6 enc Tryz.prog Tryz.f7 Rows.treePartsRow.domain false) (Rows.treePartsSpec.post enc Tryz.prog Tryz.f7 false true false false) := by
  refine returnsInHanded_of_change_sized (C := Tryz.checked) Facts.own started (by kernel_rfl) Tryz.func7
    (ChangeSpec.witness6 (enc := enc) (C := Tryz.checked) false ⟨#[], #[.slice none 0 0], []⟩ 8 (by kernel_rfl) (by kernel_rfl) (by kernel_rfl) (by kernel_rfl)) ?_
  intro W base args ds gs before hval hW _ hsz _
  exact contract H enc W base args ds gs before hval hW hsz

theorem holds : Rows.TreePartsSaid :=
  OpenClaim.holds_of_wide 7 Tryz.f7 rfl rfl rfl rfl rfl rfl rfl ⟨rfl, rfl, rfl, rfl, rfl⟩ rfl rfl rfl rfl rfl (by kernel_rfl) Tryz.func7 (by kernel_rfl)
    (of_decide_eq_true (by kernel_rfl)) (by unfold Func.isWrapper; first | (rw [if_pos (by decide +kernel)]; kernel_rfl) | (rw [if_neg (by decide +kernel)]; exact ⟨rfl, rfl⟩))
    (fun os started H enc _ => lifted os started H enc)
-- ROW END
end TreeParts
end Go.Proofs.YtbaclinjimfncaaGreat
