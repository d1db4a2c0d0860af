/-
  SessKeeps (P21.1, P21.2): a session has the last token that an ask of its own brought, wherever it goes, and one ask at a time. For every input.
-/
import Derived.Test.YtnmkhccgaedigaaSessArgs
import Derived.Test.YtnmkhccgaedigaaFrame
namespace Go.Proofs.Ytnmkhccgaedigaa
namespace SessKeeps
open Go.ChangeShapes Go.WideShapes Go.ChangeAt Go.RowKit Sess Blk
attribute [local go_sem ↓] Go.wp_at_zero Go.wp_at_succ

theorem token_at {F : Nat → Prop} {w : World} {sb m : Nat} {N : Int} {L : List Sn} (h : SI F w sb N L m) (hn : L.length ≤ 10000000000000) (k : Int) {t : List Int} (hF : tokF L k = t) (tl : Nat) (htl : t.length = tl) :
    Calls Try.prog 21 #[hd sb, .int .i64 k] w (fun e w' => ∃ A1 c1, e = .returned (.slice A1 tl c1) ∧ Hid (w'.ownsRow w.heap.size 5 1 (.slice A1 tl c1) tl (nums .u8 t) ∧ Below w.heap.size w w')) :=
  (token_any h hn k).mono fun e w' h => by
    rw [hF] at h
    obtain ⟨A1, c1, n1, he, hl, h1, h2⟩ := h
    rw [htl] at hl
    subst hl
    exact ⟨A1, c1, he, Lib.hid ⟨h1, h2⟩⟩
def other : List Int := [111, 116, 104, 101, 114]
theorem other_row (w : World) : Ns .u8 (w.alloc (.cells #[.int .u8 111, .int .u8 116, .int .u8 104, .int .u8 101, .int .u8 114] 5 (5, 6))) (w.heap.size + 1) (some ⟨w.heap.size, 0, none⟩) other := fun _ => ⟨w.heap.size, 0, rfl, by omega, fun j hj => by
  rw [Nat.zero_add, cell_of_row _ w.heap.size j #[.int .u8 111, .int .u8 116, .int .u8 104, .int .u8 101, .int .u8 114] 5 (5, 6) (heap_alloc_new w _)]
  have : j < 5 := hj
  match j, this with
  | 0, _ => rfl
  | 1, _ => rfl
  | 2, _ => rfl
  | 3, _ => rfl
  | 4, _ => rfl⟩

set_option maxRecDepth 100000 in
set_option maxHeartbeats 4000000 in
theorem walk (w : World) (A : Option Addr) (c : Nat) (l : List Tk) (ht : Tks w w.heap.size A l) (hq : ∀ x ∈ l, OkT x.1) (hb24 : l.length * 24 ≤ 140737488351232) (_hlc : l.length ≤ c)
    (A' : Option Addr) (c' : Nat) (zs : List Int) (hr : Ns .i64 w w.heap.size A' zs) (hby : ∀ z ∈ zs, -9223372036854775808 ≤ z ∧ z ≤ 9223372036854775807) (hbig : zs.length ≤ 140737488351232) (_hlc' : zs.length ≤ c')
    (others : Int) (_hoth : -9223372036854775808 ≤ others ∧ others ≤ 9223372036854775807) :
    Calls Try.prog 4 #[.slice A l.length c, .slice A' zs.length c', .int .i64 others] w fun e w' => e = .returned (.bool true) ∧ Below w.heap.size w w' := by
  obtain ⟨n, hn⟩ : ∃ n, l.length = n := ⟨_, rfl⟩
  obtain ⟨s, hs⟩ : ∃ s, zs.length = s := ⟨_, rfl⟩
  rw [hn] at hb24 ⊢
  rw [hs] at hbig ⊢
  have hcv : ∀ (U : World) (B : Nat) (A2 : Option Addr) (c2 tl : Nat) (t : List Int), t.length = tl → Ns .u8 U B A2 t → (convert 32 9 (.slice A2 tl c2)).run Try.prog U = .ok (.string (strOfNums t)) U := fun U B A2 c2 tl t htl h => by
    subst htl
    exact run_conv_ns (P := Try.prog) U 32 5 9 Try.underlying32 Try.underlying5 Try.underlying9 c2 h
  have HCV := Lib.hid hcv
  have HZ := Lib.hid (And.intro ht (And.intro hn (And.intro hq (And.intro hr (And.intro hs hby)))))
  have HA := Lib.hid (awake_any w)
  clear hcv hr hn hs hby ht hq _hlc _hlc' _hoth
  go_enter Try.func4, Try.ntmps4
  go_wp2_with fail
  refine HA.out.mono ?_
  rintro e0 w0 ⟨rfl, b0⟩
  have HB0 := Lib.hid b0
  have H1 := Lib.hid (new_at 16 (by omega) w0)
  clear b0
  go_wp2_with fail
  refine H1.out.mono ?_
  rintro e1 w1 ⟨F1, sb, rfl, h1⟩
  have S1 : Hid (Sit w sb 16 [] 0 F1 w1) := Lib.hid ⟨h1.out.1, HB0.out.trans (h1.out.2.2.mono HB0.out.size), fun k hk => Nat.le_trans HB0.out.size (h1.out.2.1 k hk)⟩
  have H2 := Lib.hid (open_at S1.out.1 (by simp) 3 (L' := [(3, [], 0)]) (num := 1) (err := 0) (by decide))
  clear h1
  go_wp2_with fail
  refine H2.out.mono ?_
  rintro e2 w2 ⟨rfl, F2, h2⟩
  have S2 := Lib.hid (S1.out.step h2.out.1 h2.out.2)
  have H3 := Lib.hid (open_at S2.out.1 (by simp) 4 (L' := [(3, [], 0), (4, [], 0)]) (num := 2) (err := 0) (by decide))
  clear h2
  go_wp2_with fail
  refine H3.out.mono ?_
  rintro e3 w3 ⟨rfl, F3, h3⟩
  have S3 := Lib.hid (S2.out.step h3.out.1 h3.out.2)
  clear h3
  go_wp2_with fail
  go_loopw [9, 10, 11] (fun av lv q wr => ∃ (i : Nat) (a : Int) (t : List Int) (At : Option Addr) (ct tl : Nat) (u : List Int) (m : Nat) (F : Nat → Prop), i ≤ n ∧ q = .int .i64 i ∧ av = .int .i64 a ∧ lv = .slice At tl ct ∧ m ≤ 3 * i ∧ (1 ≤ a ∧ a ≤ 16) ∧ Hid (Sit w sb 16 [(a, t, 0), (4, u, 0)] m F wr ∧ Ns .u8 w w.heap.size At t ∧ t.length = tl)) (fun _ _ q _ => n - (intOf q).toNat)
  case atStart => exact ⟨0, 3, [], none, 0, 0, [], 0, F3, by omega, rfl, rfl, rfl, by omega, by omega, Lib.hid ⟨S3.out, Ns.nil _, rfl⟩⟩
  case round =>
    obtain ⟨i, a, t, At, ct, tl, u, m, F, hi, rfl, rfl, rfl, hm, ha, hst⟩ := hrel
    obtain ⟨wq, rfl⟩ : ∃ wq : World, wq = wr := ⟨_, rfl⟩
    have ST := Lib.hid hst.out.1
    have HT := Lib.hid hst.out.2
    clear hst
    by_cases hlt : i < n
    · have hil : i < l.length := by rw [HZ.out.2.1]; exact hlt
      have hi12 : i ≤ 5864062014634 := by omega
      have z1 : (0 : Int) ≤ (i : Int) := by omega
      have z2 : (i : Int) < (n : Int) := by omega
      obtain ⟨tb, to_, rfl, htb, htc⟩ := HZ.out.1.2 (by omega)
      have HTC := Lib.hid (And.intro htb htc)
      clear htb htc
      have hmem : l.getD i t0 ∈ l := by
        rw [List.getD_eq_getElem?_getD, List.getElem?_eq_getElem hil]
        exact List.getElem_mem _
      obtain ⟨⟨y, Ay, cy⟩, hy⟩ : ∃ x, l.getD i t0 = x := ⟨_, rfl⟩
      rw [hy] at hmem
      have hOk := HZ.out.2.2.1 _ hmem
      have hNy := HZ.out.1.1 _ hmem
      simp only at hOk hNy
      obtain ⟨yl, hyl⟩ : ∃ k, y.length = k := ⟨_, rfl⟩
      have hcell : ∀ V, Below w.heap.size w V → V.cell? ⟨tb, to_ + i, none⟩ = some (.slice Ay yl cy) := fun V hb => by
        have h := HTC.out.2 i hil
        rw [hy] at h
        unfold tkV at h
        simp only at h
        rw [hyl] at h
        exact (hb.cell (p := ⟨tb, to_ + i, none⟩) HTC.out.1).trans h
      have HY := Lib.hid (And.intro hOk (And.intro hNy (And.intro hyl hcell)))
      clear hmem hOk hNy hyl hcell hy
      obtain ⟨op, hop⟩ : ∃ op : Int, 2 * (i : Int) + 1 = op := ⟨_, rfl⟩
      have hop1 : 0 < op ∧ op ≤ 11728124029270 := by omega
      have e1 : IntKind.i64.wrap (2 * (i : Int)) = 2 * (i : Int) := Go.IntWalk.i64_in _ (by omega)
      have e2 : IntKind.i64.wrap (2 * (i : Int) + 1) = op := by rw [Go.IntWalk.i64_in _ (by omega)]; exact hop
      have e3 : IntKind.i64.wrap (op + 1) = op + 1 := Go.IntWalk.i64_in _ (by omega)
      have H4 := Lib.hid (begin_at ST.out.1 (by simp) (by omega) 1 op (by omega) (L' := [(a, t, op), (4, u, 0)]) (site := a) (tok := t) (err := 0) (begin1 (by omega)) tl HT.out.2)
      clear hop
      go_wp2_with fail
      refine H4.out.mono ?_
      rintro e4 w4 ⟨A4, c4, m4, F4, B4, rfl, hm4, h4⟩
      have S4 := Lib.hid (ST.out.step h4.out.1 h4.out.2.1)
      have O4 := Lib.hid (And.intro (own_ns (zs := t) (c := c4) (n := tl) (by rw [HT.out.2]; exact h4.out.2.2.2.2)) h4.out.2.2.2.2)
      have H5 := Lib.hid (begin_at S4.out.1 (by simp) (by omega) 1 (op + 1) (by omega) (L' := [(a, t, op), (4, u, 0)]) (site := 0) (tok := []) (err := 202) (begin1b (by omega) (by omega) (by omega)) 0 rfl)
      have hF4 := Lib.hid h4.out.2.2.1
      clear h4 H4
      go_wp2_with fail
      refine H5.out.mono ?_
      rintro e5 w5 ⟨A5, c5, m5, F5, B5, rfl, hm5, h5⟩
      have S5 := Lib.hid (S4.out.step h5.out.1 h5.out.2.1)
      have N5 : Hid (Ns .u8 w5 w5.heap.size A4 t) := Lib.hid (fun hp => by
        refine ns_same O4.out.1 (fun ad had => ?_) h5.out.2.1.1.size hp
        have hob : (Value.slice A4 tl c4).ownBlock = some ad.block := by rw [had]; rfl
        have hlo := O4.out.2.lt ad.block hob
        exact h5.out.2.1.1.block ad.block hlo.2 fun hf => by have := hF4.out _ hf; omega)
      have k1 := HCV.out w5 w5.heap.size A4 c4 tl t HT.out.2 N5.out
      have k2 := HCV.out w5 w5.heap.size At ct tl t HT.out.2 ((HT.out.1.below S5.out.2.1).more S5.out.2.1.size)
      have heq : ((strOfNums t).toList == (strOfNums t).toList) = true := by simp
      obtain ⟨St, hSt⟩ : ∃ S, strOfNums t = S := ⟨_, rfl⟩
      rw [hSt] at k1 k2 heq
      have H6 := Lib.hid (go_at S5.out.1 (by simp) 1 5 (L' := [(a, t, op), (4, u, 0)]) (err := 202) (go1 (by omega)))
      clear h5 H5 hF4 N5 O4 hSt
      go_wp2_with fail
      refine H6.out.mono ?_
      rintro e6 w6 ⟨rfl, h6⟩
      have S6 := Lib.hid (S5.out.step h6.out.1 h6.out.2)
      clear h6 H6 k1 k2 heq
      obtain ⟨cb, hcb⟩ : ∃ b, ((i : Int) % 3 == Int.tmod others 3) = b := ⟨_, rfl⟩
      cases cb with
      | false =>
        obtain ⟨w7, rfl⟩ : ∃ x : World, x = w6 := ⟨_, rfl⟩
        obtain ⟨m7, rfl⟩ : ∃ x : Nat, x = m5 := ⟨_, rfl⟩
        obtain ⟨u7, rfl⟩ : ∃ x : List Int, x = u := ⟨_, rfl⟩
        have S7 := S6
        have H8 := Lib.hid (end_arg S7.out (by simp) op (by omega) Ay cy yl y HY.out.2.2.1 HY.out.1 HY.out.2.1 (L' := [(a, if y.length = 0 then t else y, 0), (4, u7, 0)]) (num := 1) (ok := true) (end1 (by omega)))
        have d1 := HY.out.2.2.2 w7 S7.out.2.1
        go_wp2_with fail
        refine H8.out.mono ?_
        rintro e8 w8 ⟨rfl, F8, h8⟩
        have S8 := Lib.hid (S7.out.step h8.out.1 h8.out.2)
        clear h8 H8 d1
        have H9 := Lib.hid (end_arg S8.out (by simp) op (by omega) Ay cy yl y HY.out.2.2.1 HY.out.1 HY.out.2.1 (L' := [(a, if y.length = 0 then t else y, 0), (4, u7, 0)]) (num := 0) (ok := false) (end1b (by omega)))
        have d1 := HY.out.2.2.2 w8 S8.out.2.1
        go_wp2_with fail
        refine H9.out.mono ?_
        rintro e9 w9 ⟨rfl, F9, h9⟩
        have S8 := Lib.hid (S8.out.step h9.out.1 h9.out.2)
        clear h9 H9 d1
        have d1 := HY.out.2.2.2 w9 S8.out.2.1
        by_cases hpos : 0 < yl
        · have dp : decide (0 < (yl : Int)) = true := decide_eq_true (by omega)
          have S8 : Hid (Sit w sb 16 [(a, y, 0), (4, u7, 0)] m7 F9 w9) := Lib.hid (by have h := S8.out; rwa [if_neg (by have := HY.out.2.2.1; omega)] at h)
          by_cases his : i < s
          · have d2 : decide ((i : Int) < (s : Int)) = true := decide_eq_true (by omega)
            have d3 : (i : Int) < (s : Int) := by omega
            obtain ⟨zb, zo, rfl, hzb, hzc⟩ := HZ.out.2.2.2.1 (by rw [HZ.out.2.2.2.2.1]; omega)
            obtain ⟨zi, hzi⟩ : ∃ z, zs.getD i 0 = z := ⟨_, rfl⟩
            have hzr := HZ.out.2.2.2.2.2 zi (by rw [← hzi, List.getD_eq_getElem?_getD, List.getElem?_eq_getElem (by rw [HZ.out.2.2.2.2.1]; exact his)]; exact List.getElem_mem _)
            have d4 : ∀ V, Below w.heap.size w V → V.cell? ⟨zb, zo + i, none⟩ = some (.int .i64 zi) := fun V hb => by
              have h := hzc i (by rw [HZ.out.2.2.2.2.1]; exact his)
              rw [hzi] at h
              exact (hb.cell (p := ⟨zb, zo + i, none⟩) hzb).trans h
            have HD4 := Lib.hid d4
            have d5 := d4 w9 S8.out.2.1
            clear d4 hzc hzi
            by_cases hok : 1 ≤ zi ∧ zi ≤ 16
            · have H10 := Lib.hid (go_at S8.out.1 (by simp) 1 zi (L' := [(zi, y, 0), (4, u7, 0)]) (err := 0) (go_yes hok))
              go_wp2_with fail
              refine H10.out.mono ?_
              rintro e10 w10 ⟨rfl, h10⟩
              have S9 := Lib.hid (S8.out.step h10.out.1 h10.out.2)
              have d6 := HD4.out w10 S9.out.2.1
              clear h10 H10
              go_wp2_with fail
              exact ⟨⟨i + 1, zi, y, Ay, cy, yl, u7, m7, _, by omega, rfl, rfl, rfl, by omega, hok, Lib.hid ⟨S9.out, HY.out.2.1, HY.out.2.2.1⟩⟩, by simp only [intOf]; omega⟩
            · have H10 := Lib.hid (go_at S8.out.1 (by simp) 1 zi (L' := [(a, y, 0), (4, u7, 0)]) (err := 1) (go_no hok))
              go_wp2_with fail
              refine H10.out.mono ?_
              rintro e10 w10 ⟨rfl, h10⟩
              have S9 := Lib.hid (S8.out.step h10.out.1 h10.out.2)
              have d6 := HD4.out w10 S9.out.2.1
              clear h10 H10
              by_cases h1z : 1 ≤ zi
              · have d7 : decide (1 ≤ zi) = true := decide_eq_true h1z
                have d8 : decide (zi ≤ 16) = false := decide_eq_false (by omega)
                go_wp2_with fail
                exact ⟨⟨i + 1, a, y, Ay, cy, yl, u7, m7, _, by omega, rfl, rfl, rfl, by omega, by omega, Lib.hid ⟨S9.out, HY.out.2.1, HY.out.2.2.1⟩⟩, by simp only [intOf]; omega⟩
              · have d7 : decide (1 ≤ zi) = false := decide_eq_false h1z
                go_wp2_with fail
                exact ⟨⟨i + 1, a, y, Ay, cy, yl, u7, m7, _, by omega, rfl, rfl, rfl, by omega, by omega, Lib.hid ⟨S9.out, HY.out.2.1, HY.out.2.2.1⟩⟩, by simp only [intOf]; omega⟩
          · have d2 : decide ((i : Int) < (s : Int)) = false := decide_eq_false (by omega)
            go_wp2_with fail
            exact ⟨⟨i + 1, a, y, Ay, cy, yl, u7, m7, _, by omega, rfl, rfl, rfl, by omega, by omega, Lib.hid ⟨S8.out, HY.out.2.1, HY.out.2.2.1⟩⟩, by simp only [intOf]; omega⟩
        · have dp : decide (0 < (yl : Int)) = false := decide_eq_false (by omega)
          have S8 : Hid (Sit w sb 16 [(a, t, 0), (4, u7, 0)] m7 F9 w9) := Lib.hid (by have h := S8.out; rwa [if_pos (by have := HY.out.2.2.1; omega)] at h)
          by_cases his : i < s
          · have d2 : decide ((i : Int) < (s : Int)) = true := decide_eq_true (by omega)
            have d3 : (i : Int) < (s : Int) := by omega
            obtain ⟨zb, zo, rfl, hzb, hzc⟩ := HZ.out.2.2.2.1 (by rw [HZ.out.2.2.2.2.1]; omega)
            obtain ⟨zi, hzi⟩ : ∃ z, zs.getD i 0 = z := ⟨_, rfl⟩
            have hzr := HZ.out.2.2.2.2.2 zi (by rw [← hzi, List.getD_eq_getElem?_getD, List.getElem?_eq_getElem (by rw [HZ.out.2.2.2.2.1]; exact his)]; exact List.getElem_mem _)
            have d4 : ∀ V, Below w.heap.size w V → V.cell? ⟨zb, zo + i, none⟩ = some (.int .i64 zi) := fun V hb => by
              have h := hzc i (by rw [HZ.out.2.2.2.2.1]; exact his)
              rw [hzi] at h
              exact (hb.cell (p := ⟨zb, zo + i, none⟩) hzb).trans h
            have HD4 := Lib.hid d4
            have d5 := d4 w9 S8.out.2.1
            clear d4 hzc hzi
            by_cases hok : 1 ≤ zi ∧ zi ≤ 16
            · have H10 := Lib.hid (go_at S8.out.1 (by simp) 1 zi (L' := [(zi, t, 0), (4, u7, 0)]) (err := 0) (go_yes hok))
              go_wp2_with fail
              refine H10.out.mono ?_
              rintro e10 w10 ⟨rfl, h10⟩
              have S9 := Lib.hid (S8.out.step h10.out.1 h10.out.2)
              have d6 := HD4.out w10 S9.out.2.1
              clear h10 H10
              go_wp2_with fail
              exact ⟨⟨i + 1, zi, t, At, ct, tl, u7, m7, _, by omega, rfl, rfl, rfl, by omega, hok, Lib.hid ⟨S9.out, HT.out⟩⟩, by simp only [intOf]; omega⟩
            · have H10 := Lib.hid (go_at S8.out.1 (by simp) 1 zi (L' := [(a, t, 0), (4, u7, 0)]) (err := 1) (go_no hok))
              go_wp2_with fail
              refine H10.out.mono ?_
              rintro e10 w10 ⟨rfl, h10⟩
              have S9 := Lib.hid (S8.out.step h10.out.1 h10.out.2)
              have d6 := HD4.out w10 S9.out.2.1
              clear h10 H10
              by_cases h1z : 1 ≤ zi
              · have d7 : decide (1 ≤ zi) = true := decide_eq_true h1z
                have d8 : decide (zi ≤ 16) = false := decide_eq_false (by omega)
                go_wp2_with fail
                exact ⟨⟨i + 1, a, t, At, ct, tl, u7, m7, _, by omega, rfl, rfl, rfl, by omega, by omega, Lib.hid ⟨S9.out, HT.out⟩⟩, by simp only [intOf]; omega⟩
              · have d7 : decide (1 ≤ zi) = false := decide_eq_false h1z
                go_wp2_with fail
                exact ⟨⟨i + 1, a, t, At, ct, tl, u7, m7, _, by omega, rfl, rfl, rfl, by omega, by omega, Lib.hid ⟨S9.out, HT.out⟩⟩, by simp only [intOf]; omega⟩
          · have d2 : decide ((i : Int) < (s : Int)) = false := decide_eq_false (by omega)
            go_wp2_with fail
            exact ⟨⟨i + 1, a, t, At, ct, tl, u7, m7, _, by omega, rfl, rfl, rfl, by omega, by omega, Lib.hid ⟨S8.out, HT.out⟩⟩, by simp only [intOf]; omega⟩
      | true =>
        have H7 := Lib.hid (begin_at S6.out.1 (by simp) (by omega) 2 (op + 1) (by omega) (L' := [(a, t, op), (4, u, op + 1)]) (site := 4) (tok := u) (err := 0) (begin2 (by omega) (by omega)) u.length rfl)
        go_wp2_with fail
        refine H7.out.mono ?_
        rintro e7 wx ⟨Ax, cx, m7, Fx, Bx, rfl, hm7, hx⟩
        have SX := Lib.hid (S6.out.step hx.out.1 hx.out.2.1)
        clear hx H7
        have hal : Below wx.heap.size wx (wx.alloc (.cells #[.int .u8 111, .int .u8 116, .int .u8 104, .int .u8 101, .int .u8 114] 5 (5, 6))) := (Below.refl _ wx).alloc (Nat.le_refl _) _
        have kc : (convert 32 32 (.slice (some ⟨wx.heap.size, 0, none⟩) 5 5)).run Try.prog (wx.alloc (.cells #[.int .u8 111, .int .u8 116, .int .u8 104, .int .u8 101, .int .u8 114] 5)) = .ok (.slice (some ⟨wx.heap.size, 0, none⟩) 5 5) (wx.alloc (.cells #[.int .u8 111, .int .u8 116, .int .u8 104, .int .u8 101, .int .u8 114] 5 (5, 6))) := Lib.run_convert_bytes_const (P := Try.prog) wx 32 5 #[.int .u8 111, .int .u8 116, .int .u8 104, .int .u8 101, .int .u8 114] 5 5 Try.underlying32 Try.underlying5
        have SY := Lib.hid (SX.out.below hal)
        have H7 := Lib.hid (end_at SY.out.1 (by simp) (op + 1) (by omega) (some ⟨wx.heap.size, 0, none⟩) 5 5 other rfl ⟨by decide, by decide⟩ ((other_row wx).more (by simp)) (fun ad had hf => by
          injection had with had
          subst had
          have := SX.out.1.lt _ hf
          simp only at this
          omega) (L' := [(a, t, op), (4, other, 0)]) (num := 2) (ok := true) (end2 (by omega) (by omega) (by decide)))
        clear hal
        go_wp2_with fail
        refine H7.out.mono ?_
        rintro e7 w7 ⟨rfl, F7, hx⟩
        have S7 := Lib.hid (SY.out.step hx.out.1 hx.out.2)
        clear hx H7 SY SX
        obtain ⟨u7, hu7⟩ : ∃ u7, other = u7 := ⟨_, rfl⟩
        rw [hu7] at S7
        have H8 := Lib.hid (end_arg S7.out (by simp) op (by omega) Ay cy yl y HY.out.2.2.1 HY.out.1 HY.out.2.1 (L' := [(a, if y.length = 0 then t else y, 0), (4, u7, 0)]) (num := 1) (ok := true) (end1 (by omega)))
        have d1 := HY.out.2.2.2 w7 S7.out.2.1
        go_wp2_with fail
        refine H8.out.mono ?_
        rintro e8 w8 ⟨rfl, F8, h8⟩
        have S8 := Lib.hid (S7.out.step h8.out.1 h8.out.2)
        clear h8 H8 d1
        have H9 := Lib.hid (end_arg S8.out (by simp) op (by omega) Ay cy yl y HY.out.2.2.1 HY.out.1 HY.out.2.1 (L' := [(a, if y.length = 0 then t else y, 0), (4, u7, 0)]) (num := 0) (ok := false) (end1b (by omega)))
        have d1 := HY.out.2.2.2 w8 S8.out.2.1
        go_wp2_with fail
        refine H9.out.mono ?_
        rintro e9 w9 ⟨rfl, F9, h9⟩
        have S8 := Lib.hid (S8.out.step h9.out.1 h9.out.2)
        clear h9 H9 d1
        have d1 := HY.out.2.2.2 w9 S8.out.2.1
        by_cases hpos : 0 < yl
        · have dp : decide (0 < (yl : Int)) = true := decide_eq_true (by omega)
          have S8 : Hid (Sit w sb 16 [(a, y, 0), (4, u7, 0)] m7 F9 w9) := Lib.hid (by have h := S8.out; rwa [if_neg (by have := HY.out.2.2.1; omega)] at h)
          by_cases his : i < s
          · have d2 : decide ((i : Int) < (s : Int)) = true := decide_eq_true (by omega)
            have d3 : (i : Int) < (s : Int) := by omega
            obtain ⟨zb, zo, rfl, hzb, hzc⟩ := HZ.out.2.2.2.1 (by rw [HZ.out.2.2.2.2.1]; omega)
            obtain ⟨zi, hzi⟩ : ∃ z, zs.getD i 0 = z := ⟨_, rfl⟩
            have hzr := HZ.out.2.2.2.2.2 zi (by rw [← hzi, List.getD_eq_getElem?_getD, List.getElem?_eq_getElem (by rw [HZ.out.2.2.2.2.1]; exact his)]; exact List.getElem_mem _)
            have d4 : ∀ V, Below w.heap.size w V → V.cell? ⟨zb, zo + i, none⟩ = some (.int .i64 zi) := fun V hb => by
              have h := hzc i (by rw [HZ.out.2.2.2.2.1]; exact his)
              rw [hzi] at h
              exact (hb.cell (p := ⟨zb, zo + i, none⟩) hzb).trans h
            have HD4 := Lib.hid d4
            have d5 := d4 w9 S8.out.2.1
            clear d4 hzc hzi
            by_cases hok : 1 ≤ zi ∧ zi ≤ 16
            · have H10 := Lib.hid (go_at S8.out.1 (by simp) 1 zi (L' := [(zi, y, 0), (4, u7, 0)]) (err := 0) (go_yes hok))
              go_wp2_with fail
              refine H10.out.mono ?_
              rintro e10 w10 ⟨rfl, h10⟩
              have S9 := Lib.hid (S8.out.step h10.out.1 h10.out.2)
              have d6 := HD4.out w10 S9.out.2.1
              clear h10 H10
              go_wp2_with fail
              exact ⟨⟨i + 1, zi, y, Ay, cy, yl, u7, m7, _, by omega, rfl, rfl, rfl, by omega, hok, Lib.hid ⟨S9.out, HY.out.2.1, HY.out.2.2.1⟩⟩, by simp only [intOf]; omega⟩
            · have H10 := Lib.hid (go_at S8.out.1 (by simp) 1 zi (L' := [(a, y, 0), (4, u7, 0)]) (err := 1) (go_no hok))
              go_wp2_with fail
              refine H10.out.mono ?_
              rintro e10 w10 ⟨rfl, h10⟩
              have S9 := Lib.hid (S8.out.step h10.out.1 h10.out.2)
              have d6 := HD4.out w10 S9.out.2.1
              clear h10 H10
              by_cases h1z : 1 ≤ zi
              · have d7 : decide (1 ≤ zi) = true := decide_eq_true h1z
                have d8 : decide (zi ≤ 16) = false := decide_eq_false (by omega)
                go_wp2_with fail
                exact ⟨⟨i + 1, a, y, Ay, cy, yl, u7, m7, _, by omega, rfl, rfl, rfl, by omega, by omega, Lib.hid ⟨S9.out, HY.out.2.1, HY.out.2.2.1⟩⟩, by simp only [intOf]; omega⟩
              · have d7 : decide (1 ≤ zi) = false := decide_eq_false h1z
                go_wp2_with fail
                exact ⟨⟨i + 1, a, y, Ay, cy, yl, u7, m7, _, by omega, rfl, rfl, rfl, by omega, by omega, Lib.hid ⟨S9.out, HY.out.2.1, HY.out.2.2.1⟩⟩, by simp only [intOf]; omega⟩
          · have d2 : decide ((i : Int) < (s : Int)) = false := decide_eq_false (by omega)
            go_wp2_with fail
            exact ⟨⟨i + 1, a, y, Ay, cy, yl, u7, m7, _, by omega, rfl, rfl, rfl, by omega, by omega, Lib.hid ⟨S8.out, HY.out.2.1, HY.out.2.2.1⟩⟩, by simp only [intOf]; omega⟩
        · have dp : decide (0 < (yl : Int)) = false := decide_eq_false (by omega)
          have S8 : Hid (Sit w sb 16 [(a, t, 0), (4, u7, 0)] m7 F9 w9) := Lib.hid (by have h := S8.out; rwa [if_pos (by have := HY.out.2.2.1; omega)] at h)
          by_cases his : i < s
          · have d2 : decide ((i : Int) < (s : Int)) = true := decide_eq_true (by omega)
            have d3 : (i : Int) < (s : Int) := by omega
            obtain ⟨zb, zo, rfl, hzb, hzc⟩ := HZ.out.2.2.2.1 (by rw [HZ.out.2.2.2.2.1]; omega)
            obtain ⟨zi, hzi⟩ : ∃ z, zs.getD i 0 = z := ⟨_, rfl⟩
            have hzr := HZ.out.2.2.2.2.2 zi (by rw [← hzi, List.getD_eq_getElem?_getD, List.getElem?_eq_getElem (by rw [HZ.out.2.2.2.2.1]; exact his)]; exact List.getElem_mem _)
            have d4 : ∀ V, Below w.heap.size w V → V.cell? ⟨zb, zo + i, none⟩ = some (.int .i64 zi) := fun V hb => by
              have h := hzc i (by rw [HZ.out.2.2.2.2.1]; exact his)
              rw [hzi] at h
              exact (hb.cell (p := ⟨zb, zo + i, none⟩) hzb).trans h
            have HD4 := Lib.hid d4
            have d5 := d4 w9 S8.out.2.1
            clear d4 hzc hzi
            by_cases hok : 1 ≤ zi ∧ zi ≤ 16
            · have H10 := Lib.hid (go_at S8.out.1 (by simp) 1 zi (L' := [(zi, t, 0), (4, u7, 0)]) (err := 0) (go_yes hok))
              go_wp2_with fail
              refine H10.out.mono ?_
              rintro e10 w10 ⟨rfl, h10⟩
              have S9 := Lib.hid (S8.out.step h10.out.1 h10.out.2)
              have d6 := HD4.out w10 S9.out.2.1
              clear h10 H10
              go_wp2_with fail
              exact ⟨⟨i + 1, zi, t, At, ct, tl, u7, m7, _, by omega, rfl, rfl, rfl, by omega, hok, Lib.hid ⟨S9.out, HT.out⟩⟩, by simp only [intOf]; omega⟩
            · have H10 := Lib.hid (go_at S8.out.1 (by simp) 1 zi (L' := [(a, t, 0), (4, u7, 0)]) (err := 1) (go_no hok))
              go_wp2_with fail
              refine H10.out.mono ?_
              rintro e10 w10 ⟨rfl, h10⟩
              have S9 := Lib.hid (S8.out.step h10.out.1 h10.out.2)
              have d6 := HD4.out w10 S9.out.2.1
              clear h10 H10
              by_cases h1z : 1 ≤ zi
              · have d7 : decide (1 ≤ zi) = true := decide_eq_true h1z
                have d8 : decide (zi ≤ 16) = false := decide_eq_false (by omega)
                go_wp2_with fail
                exact ⟨⟨i + 1, a, t, At, ct, tl, u7, m7, _, by omega, rfl, rfl, rfl, by omega, by omega, Lib.hid ⟨S9.out, HT.out⟩⟩, by simp only [intOf]; omega⟩
              · have d7 : decide (1 ≤ zi) = false := decide_eq_false h1z
                go_wp2_with fail
                exact ⟨⟨i + 1, a, t, At, ct, tl, u7, m7, _, by omega, rfl, rfl, rfl, by omega, by omega, Lib.hid ⟨S9.out, HT.out⟩⟩, by simp only [intOf]; omega⟩
          · have d2 : decide ((i : Int) < (s : Int)) = false := decide_eq_false (by omega)
            go_wp2_with fail
            exact ⟨⟨i + 1, a, t, At, ct, tl, u7, m7, _, by omega, rfl, rfl, rfl, by omega, by omega, Lib.hid ⟨S8.out, HT.out⟩⟩, by simp only [intOf]; omega⟩
    · have hin : i = n := by omega
      subst hin
      have H7 := Lib.hid (site_any ((ST.out.below ((Below.refl _ wq).drew)).1) (by simp) 1)
      have HS1 := Lib.hid (site1 (a := a) (b := 4) (op := 0) (op' := 0) (t := t) (u := u))
      have H8 := Lib.hid (token_at (w := wq.drew) ((ST.out.below ((Below.refl _ wq).drew)).1) (by simp) 1 tok1 tl HT.out.2)
      have hbr : Below w.heap.size w wq.drew := (ST.out.below ((Below.refl _ wq).drew)).2.1
      have HBR := Lib.hid hbr
      have heq : ((strOfNums t).toList == (strOfNums t).toList) = true := by simp
      obtain ⟨St, hSt⟩ : ∃ S, strOfNums t = S := ⟨_, rfl⟩
      have hkk : ∀ U, Below wq.drew.heap.size wq.drew U → (convert 32 9 (.slice At tl ct)).run Try.prog U = .ok (.string St) U := fun U h => by
        rw [← hSt]
        exact HCV.out U U.heap.size At ct tl t HT.out.2 (((HT.out.1.below hbr).more hbr.size).below h |>.more h.size)
      have hcc : ∀ U A9 c9, Ns .u8 U U.heap.size A9 t → (convert 32 9 (.slice A9 tl c9)).run Try.prog U = .ok (.string St) U := fun U A9 c9 h => by
        rw [← hSt]
        exact HCV.out U U.heap.size A9 c9 tl t HT.out.2 h
      rw [hSt] at heq
      have x0 := hkk wq.drew (Below.refl _ _)
      have HKK := Lib.hid (And.intro hkk hcc)
      have hdn : decide ((i : Int) < (i : Int)) = false := by simp
      clear hkk hcc hbr hSt
      go_wp2_with fail
      go_region_held (fun U => (convert 32 9 (.slice At tl ct)).run Try.prog U = .ok (.string St) U)
        (first | exact x0 | exact x9)
        (first
        | (go_at_call 20; rw [HS1.out] at H7; refine H7.out.mono ?_; rintro e7 w7 ⟨rfl, rfl⟩)
        | (go_at_call 21; refine H8.out.mono ?_; rintro e9 w9 ⟨A9, c9, rfl, h9⟩; have x9 := HKK.out.1 w9 h9.out.2; have y9 := HKK.out.2 w9 A9 c9 (own_ns (zs := t) (by rw [HT.out.2]; exact h9.out.1))))
      all_goals
        have HE := Lib.hid (HBR.out.trans (h9.out.2.mono HBR.out.size))
        clear x9 y9 h9
        go_wp2_with fail
        go_ret
        exact ⟨rfl, HE.out⟩
-- ROW BEGIN
set_option maxRecDepth 100000 in
/-- What the walk gives, shut again. -/
theorem contract (H : Type) (enc : TypeId × Value → H) (W : World) (base : Nat) (args : Array Value) (ds gs : List (DataW H)) (before : List MemPlace)
    (hval : ∀ (j : Nat) t v, Try.f4.params[j]? = some t → args[j]? = some v → Value.okWide Try.prog W .any base t v)
    (hW : DataW.Whole enc Try.prog Try.f4.params.toList Rows.sessKeepsSpec.vars false W args.toList ds gs before)
    (hsz : (DataW.weightsEach Try.prog (Try.f4.params.toList ++ Rows.sessKeepsSpec.plain.varTypes Try.prog) (ds ++ gs)).all (· ≤ reachBytes) = true) :
    Calls Try.prog 4 args W fun e W' => ∃ v, e = .returned v ∧ Rows.sessKeepsSpec.post enc Try.prog Try.f4 false true false false W args v W' := by
  have hW' := hW
  obtain ⟨p, q, hA0, hV, hbef, _, _⟩ := hW
  have hA : DataW.TrodAll enc Try.prog W 0 (fun _ => true) true Try.f4.params.toList args.toList ds p := hA0
  have hA1 := hA
  rw [Try.params4] at hA hval hsz
  obtain ⟨v0, vs0, d0, ds0, p0, q0, hargs, rfl, rfl, h0, r0⟩ := trodAll_cons hA
  obtain ⟨v1, vs1, d1, ds1, p1, q1, rfl, rfl, rfl, h1, r1⟩ := trodAll_cons r0
  obtain ⟨v2, vs2, d2, ds2, p2, q2, rfl, rfl, rfl, h2, r2⟩ := trodAll_cons r1
  obtain ⟨rfl, rfl, rfl⟩ := trodAll_nil r2
  obtain rfl : args = #[v0, v1, v2] := by cases args; simp_all
  obtain ⟨rfl, rfl⟩ := trodVars_none hV
  clear hA hargs
  obtain ⟨A0, c0, a0, rfl, n0, w0, b0, l0⟩ := Sess.arg_toks (hval 0 56 v0 rfl rfl) h0 (Wgt.wt_arg hsz (j := 0) rfl rfl)
  obtain ⟨A1, c1, a1, rfl, n1, w1, l1, _, o1⟩ := open_ns Try.underlying57 Try.underlying3 Facts.cells3 (hval 1 57 v1 rfl rfl) h1
  have b1 := reach_ns hsz (j := 1) rfl rfl Try.underlying57 Facts.bytes3 l1 o1
  obtain ⟨a2, rfl, rfl, _, w2⟩ := open_int Try.underlying3 (hval 2 3 v2 rfl rfl) h2
  refine (walk W A0 c0 a0 n0 w0 b0 l0 A1 c1 a1 n1 (fun z hz => wf_int (w1 z hz)) (by omega) l1 a2 (wf_int w2)).mono fun e W' ⟨he, hb⟩ => ?_
  subst he
  exact ⟨_, rfl, law_post Facts.laid (by rfl) Try.underlying4 (by rw [Try.params4]; decide +kernel) hW' hA1 rfl hbef rfl rfl rfl hb⟩

set_option maxRecDepth 100000 in
theorem lifted (os : Os) (started : os.Started) (H : Type) (enc : TypeId × Value → H) :
    ReturnsInHanded {} Try.checked os 4 .any (Rows.sessKeepsSpec.pre6 enc Try.prog Try.f4 Rows.sessKeepsRow.domain false) (Rows.sessKeepsSpec.post enc Try.prog Try.f4 false true false false) := by
  refine returnsInHanded_of_change_sized (C := Try.checked) Facts.own started (by kernel_rfl) Try.func4
    (ChangeSpec.witness6 (enc := enc) (C := Try.checked) false ⟨#[], #[.slice none 0 0, .slice none 0 0, .int .i64 0], []⟩ 8 (by kernel_rfl) (by kernel_rfl) (by kernel_rfl) (by kernel_rfl)) ?_
  intro W base args ds gs before hval hW _ hsz _
  exact contract H enc W base args ds gs before hval hW hsz

theorem holds : Rows.SessKeepsSaid :=
  OpenClaim.holds_of_wide 4 Try.f4 rfl rfl rfl rfl rfl rfl rfl ⟨rfl, rfl, rfl, rfl, rfl⟩ rfl rfl rfl rfl rfl (by kernel_rfl) Try.func4 (by kernel_rfl)
    (of_decide_eq_true (by kernel_rfl)) (by unfold Func.isWrapper; first | (rw [if_pos (by decide +kernel)]; kernel_rfl) | (rw [if_neg (by decide +kernel)]; exact ⟨rfl, rfl⟩))
    (fun os started H enc _ => lifted os started H enc)
-- ROW END
end SessKeeps
end Go.Proofs.Ytnmkhccgaedigaa
