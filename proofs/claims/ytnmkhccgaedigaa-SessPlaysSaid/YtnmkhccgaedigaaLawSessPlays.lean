/-
  SessPlays (P21.3): a script of asks is played by the program and by the document alike. For every input.
-/
import Derived.Test.YtnmkhccgaedigaaSessPlayLen
import Derived.Test.YtnmkhccgaedigaaFrame
import Derived.Deep.CutBlock
namespace Go.Proofs.Ytnmkhccgaedigaa
namespace SessPlays
open Go.ChangeShapes Go.WideShapes Go.ChangeAt Go.RowKit Sess Blk
attribute [local go_sem ↓] Go.wp_at_zero Go.wp_at_succ
theorem rnew (V : World) (N : Int) : RI (fun k => k = V.heap.size) (V.alloc (.cells #[.int .i64 N, .slice none 0 0] 31)) V.heap.size N [] :=
  ⟨none, 0, [], rfl, ⟨heap_alloc_new V _, World.ownsRow_nil _ _ _ _⟩, ⟨rfl, fun x hx => by cases hx⟩, rfl, (fun g hg => by cases hg), fun k hk => by subst hk; simp⟩
theorem start {w V : World} {sb : Nat} {N : Int} {F : Nat → Prop} (h : SI F V sb N [] 0) (hb : Below w.heap.size w V) (hF : ∀ k, F k → w.heap.size ≤ k) : St (fun _ => False) w (V.alloc (.cells #[.int .i64 N, .slice none 0 0] 31)) sb V.heap.size N [] 0 [] :=
  have ha : Below V.heap.size V (V.alloc (.cells #[.int .i64 N, .slice none 0 0] 31)) := (Below.refl _ V).alloc (Nat.le_refl _) _
  ⟨F, fun k => k = V.heap.size, h.below ha, rnew V N, hb.trans (ha.mono hb.size), hF, fun k hk => by subst hk; exact hb.size, fun j hj hk => by subst hk; have := h.lt _ hj; omega, fun j hj => hj.elim⟩

set_option maxRecDepth 100000 in
set_option maxHeartbeats 4000000 in
theorem walk (w : World) (sites : Int) (_hsites : -9223372036854775808 ≤ sites ∧ sites ≤ 9223372036854775807) (A : Option Addr) (c : Nat) (l : List So) (ht : Sos w w.heap.size A l) (hq : ∀ x ∈ l, OkSo x) (hb56 : l.length * 56 ≤ 140737488351232) (_hlc : l.length ≤ c) :
    Calls Try.prog 3 #[.int .i64 sites, .slice A l.length c] w fun e w' => e = .returned (.bool true) ∧ Below w.heap.size w w' := by
  obtain ⟨n, hn⟩ : ∃ n, l.length = n := ⟨_, rfl⟩
  rw [hn] at hb56 ⊢
  have hcv : ∀ (U : World) (A2 : Option Addr) (c2 tl : Nat) (t : List Int), t.length = tl → Ns .u8 U U.heap.size A2 t → (convert 32 9 (.slice A2 tl c2)).run Try.prog U = .ok (.string (strOfNums t)) U := fun U A2 c2 tl t htl h => by
    subst htl
    exact run_conv_ns (P := Try.prog) U 32 5 9 Try.underlying32 Try.underlying5 Try.underlying9 c2 h
  have HCV := Lib.hid hcv
  have HZ := Lib.hid (And.intro ht (And.intro hn hq))
  clear hcv ht hn hq _hlc _hsites
  by_cases hs : 1 ≤ sites ∧ sites ≤ 16
  case neg =>
    have H1 := Lib.hid (new_any sites w)
    have hds : decide (sites < 1) = true ∨ (decide (sites < 1) = false ∧ decide (16 < sites) = true) := by
      by_cases h1 : sites < 1
      · exact .inl (decide_eq_true h1)
      · exact .inr ⟨decide_eq_false h1, decide_eq_true (by omega)⟩
    have HSN := Lib.hid hs
    clear hs HZ
    rcases hds with d1 | ⟨d1, d2⟩
    all_goals
      go_enter Try.func3, Try.ntmps3
      go_wp2_with fail
      refine H1.out.mono ?_
      rintro e1 w1 ⟨hb1, h1⟩
      obtain rfl : e1 = .returned (.tuple #[.pointer none, .int .i64 1]) := h1.elim (fun h => h.2) fun h => absurd h.1 HSN.out
      have HB1 := Lib.hid hb1
      have HA := Lib.hid (awake_any w1)
      clear hb1 h1
      go_wp2_with fail
      refine HA.out.mono ?_
      rintro e2 w2 ⟨rfl, b2⟩
      have HB2 := Lib.hid (HB1.out.trans (b2.mono HB1.out.size))
      have HA2 := Lib.hid (awake_any w2)
      clear b2
      go_wp2_with fail
      refine HA2.out.mono ?_
      rintro e3 w3 ⟨rfl, b3⟩
      have HB3 := Lib.hid (HB2.out.trans (b3.mono HB2.out.size))
      clear b3
      go_wp2_with fail
      go_ret
      exact ⟨rfl, HB3.out⟩
  have H1 := Lib.hid (new_at sites hs w)
  have d1 : decide (sites < 1) = false := decide_eq_false (by omega)
  have d2 : decide (16 < sites) = false := decide_eq_false (by omega)
  go_enter Try.func3, Try.ntmps3
  go_wp2_with fail
  refine H1.out.mono ?_
  rintro e1 w1 ⟨F1, sb, rfl, h1⟩
  have HA := Lib.hid (awake_any w1)
  go_wp2_with fail
  refine HA.out.mono ?_
  rintro e2 w2 ⟨rfl, b2⟩
  have HST := Lib.hid (start (h1.out.1.below b2) (h1.out.2.2.trans (b2.mono h1.out.2.2.size)) h1.out.2.1)
  clear b2 h1
  obtain ⟨rb, hrb⟩ : ∃ rb, w2.heap.size = rb := ⟨_, rfl⟩
  rw [hrb] at HST
  go_wp2_with fail
  go_loopw [8] (fun q wr => ∃ (k m : Nat) (L : List Sn), q = .int .i64 k ∧ k ≤ n ∧ Hid (St (fun _ => False) w wr sb rb sites L m L ∧ L.length ≤ k ∧ m ≤ k)) (fun q _ => n - (intOf q).toNat)
  case atStart =>
    exact ⟨0, 0, [], rfl, by omega, Lib.hid ⟨HST.out, by simp, by omega⟩⟩
  case round =>
    obtain ⟨k, m, L, rfl, hk, hst⟩ := hrel
    by_cases hlt : k < n
    · obtain ⟨⟨⟨kd, nb, si, op⟩, tk⟩, hx⟩ : ∃ x, l.getD k so0 = x := ⟨_, rfl⟩
      have hkl : k < l.length := by have := HZ.out.2.1; omega
      have hmem : ((kd, nb, si, op), tk) ∈ l := by
        rw [← hx, List.getD_eq_getElem?_getD, List.getElem?_eq_getElem hkl]
        exact List.getElem_mem hkl
      obtain ⟨b, off, rfl, hbB, hat⟩ := HZ.out.1.2 (by omega)
      have hat := hat k hkl
      rw [hx] at hat
      have hcell : ∀ r u, (sc ((kd, nb, si, op), tk))[r]? = some u → wr.cell? ⟨b, off + k * 5 + r, none⟩ = some u := fun r u hu => (hst.out.1.old.cell (p := ⟨b, off + k * 5 + r, none⟩) hbB).trans (hat r u hu)
      obtain ⟨tl, htl⟩ : ∃ tl, tk.1.length = tl := ⟨_, rfl⟩
      have s0 : wr.cell? ⟨b, off + k * 5, none⟩ = some (.int .i64 kd) := hcell 0 _ rfl
      have s1 : wr.cell? ⟨b, off + k * 5 + 1, none⟩ = some (.int .i64 nb) := hcell 1 _ rfl
      have s2 : wr.cell? ⟨b, off + k * 5 + 2, none⟩ = some (.int .i64 si) := hcell 2 _ rfl
      have s3 : wr.cell? ⟨b, off + k * 5 + 3, none⟩ = some (.int .i64 op) := hcell 3 _ rfl
      have s4 : wr.cell? ⟨b, off + k * 5 + 4, none⟩ = some (.slice tk.2.1 tl tk.2.2) := by rw [← htl]; exact hcell 4 _ rfl
      have HX := Lib.hid (And.intro (HZ.out.2.2 _ hmem) (And.intro (HZ.out.1.1 _ hmem) htl))
      have z1 : (0 : Int) ≤ (k : Int) := by omega
      have z2 : (k : Int) < (n : Int) := by omega
      clear hkl hmem hat hcell hx htl
      have hLk := hst.out.2
      have hI := hst.out.1.inv
      have hST0 := hst.out.1.hold (V' := wr.alloc (.cells #[.int .i64 kd, .int .i64 nb, .int .i64 si, .int .i64 op, .slice tk.2.1 tl tk.2.2] 34)) (B := wr.heap.size) ((Below.refl _ _).alloc (Nat.le_refl _) _) (Nat.le_refl _) (by simp)
      have hBn : Bn wr.heap.size 34 [.int .i64 kd, .int .i64 nb, .int .i64 si, .int .i64 op, .slice tk.2.1 tl tk.2.2] (wr.alloc (.cells #[.int .i64 kd, .int .i64 nb, .int .i64 si, .int .i64 op, .slice tk.2.1 tl tk.2.2] 34)) := heap_alloc_new wr _
      have HU := Lib.hid (And.intro hST0 (And.intro hBn (And.intro hLk hI)))
      clear hST0 hBn hLk hI
      go_upto_block 2 with fail
      go_cut [10] from 58 to 246 (fun _ V => ∃ (m2 : Nat) (L2 : List Sn), Hid (St (fun _ => False) w V sb rb sites L2 m2 L2 ∧ L2.length ≤ k + 1 ∧ m2 ≤ k + 1))
      case rest =>
        obtain ⟨m2, L2, HS⟩ := hcut
        clear HU HX s0 s1 s2 s3 s4 hst
        as_aux_lemma =>
          obtain ⟨nl, hnl⟩ : ∃ nl, L2.length = nl := ⟨_, rfl⟩
          obtain ⟨Ah, ch, _, g1⟩ := HS.out.1.head nl hnl
          have hnb : nl ≤ 3000000000000 := by have := HS.out.2.1; omega
          have HN := Lib.hid hnl
          have HSD := Lib.hid (HS.out.1.below (Below.refl _ _).drew)
          have HL := Lib.hid (HSD.out.len nl hnl)
          have HSI := Lib.hid (HSD.out.site (by omega) 0 (siteF_zero _))
          have HTK := Lib.hid (HSD.out.token (by omega) ((nl : Int) + 1) (t := []) (by rw [← hnl]; exact tokF_past _) 0 rfl)
          have e4 : IntKind.i64.wrap ((nl : Int) + 1) = (nl : Int) + 1 := Go.IntWalk.i64_in _ (by omega)
          clear hnl
          go_wp2_with fail
          go_region_held3 (fun V => V.cell? ⟨rb, 1, none⟩ = some (.slice Ah nl ch)) (first | exact g1 | exact g6)
            (first
            | (go_at_call 19; refine HL.out.mono ?_; rintro e5 w5 ⟨rfl, rfl⟩)
            | (go_at_call 20; refine HSI.out.mono ?_; rintro e5 w5 ⟨rfl, rfl⟩)
            | (go_at_call 21; refine HTK.out.mono ?_; rintro e6 w6 ⟨A6, c6, rfl, h6⟩; have g6 := (h6.out.2.cell (p := ⟨rb, 1, none⟩) (World.block_lt_of_cell? _ _ g1)).trans g1))
          all_goals
            have HS6 := Lib.hid (HSD.out.below h6.out.2)
            clear h6 HSD HL HSI HTK g1 g6
            go_wp2_with fail
            go_loopw [24] (fun q wr => ∃ i : Nat, q = .int .i64 i ∧ i ≤ nl ∧ Hid (St (fun _ => False) w wr sb rb sites L2 m2 L2)) (fun q _ => nl - (intOf q).toNat)
            case atStart => exact ⟨0, rfl, by omega, HS6.out⟩
            case round =>
              obtain ⟨i, rfl, hi, hT⟩ := hrel
              obtain ⟨Ai, ci, _, v1⟩ := hT.out.head nl HN.out
              by_cases hil : i < nl
              · obtain ⟨x2, hx2⟩ : ∃ x, L2[i]? = some x := ⟨_, List.getElem?_eq_getElem (by have := HN.out; omega)⟩
                obtain ⟨t2, htt⟩ : ∃ t, x2.2.1 = t := ⟨_, rfl⟩
                obtain ⟨t2l, ht2⟩ : ∃ t, t2.length = t := ⟨_, rfl⟩
                obtain ⟨gi, cc, At2, ct2, hall⟩ := hT.out.at hx2 nl HN.out t2l (by rw [htt]; exact ht2)
                have HTD := Lib.hid (hT.out.below (Below.refl _ _).drew)
                have HSI := Lib.hid (HTD.out.site (by have := HN.out; omega) ((i : Int) + 1) (siteF_in hx2))
                have HTK := Lib.hid (HTD.out.token (by have := HN.out; omega) ((i : Int) + 1) (tokF_in hx2 |>.trans htt) t2l ht2)
                obtain ⟨S2, hS2⟩ : ∃ S2, strOfNums t2 = S2 := ⟨_, rfl⟩
                have HAL : Hid (∀ U, Below wr.heap.size wr U → U.cell? ⟨rb, 1, none⟩ = some (.slice (some ⟨gi, 0, none⟩) nl cc) ∧ U.cell? ⟨gi, i * 3, none⟩ = some (.int .i64 x2.1) ∧ U.cell? ⟨gi, i * 3 + 1, none⟩ = some (.slice At2 t2l ct2) ∧ (convert 32 9 (.slice At2 t2l ct2)).run Try.prog U = .ok (.string S2) U) := Lib.hid fun U hU => by
                  obtain ⟨k1, k2, k3, k4⟩ := hall U hU
                  refine ⟨k1, k2, k3, ?_⟩
                  rw [← hS2]
                  exact HCV.out U At2 ct2 t2l t2 ht2 (by rw [← htt]; exact k4)
                have HC2 : Hid (∀ (U : World) (A2 : Option Addr) (c2 : Nat), Ns .u8 U U.heap.size A2 t2 → (convert 32 9 (.slice A2 t2l c2)).run Try.prog U = .ok (.string S2) U) := Lib.hid fun U A2 c2 h => by
                  rw [← hS2]
                  exact HCV.out U A2 c2 t2l t2 ht2 h
                have e4 : IntKind.i64.wrap ((i : Int) + 1) = (i : Int) + 1 := Go.IntWalk.i64_in _ (by omega)
                have y1 : (0 : Int) ≤ (i : Int) := by omega
                have y2 : (i : Int) < (nl : Int) := by omega
                clear hall hx2 htt ht2 hS2
                go_wp2_with fail
                go_region_held (fun V => V.cell? ⟨rb, 1, none⟩ = some (.slice (some ⟨gi, 0, none⟩) nl cc) ∧ V.cell? ⟨gi, i * 3, none⟩ = some (.int .i64 x2.1) ∧ V.cell? ⟨gi, i * 3 + 1, none⟩ = some (.slice At2 t2l ct2) ∧ (convert 32 9 (.slice At2 t2l ct2)).run Try.prog V = .ok (.string S2) V) (first | exact HAL.out _ (Below.refl _ _).drew | exact k6)
                  (first
                  | (go_at_call 20; refine HSI.out.mono ?_; rintro e5 w5 ⟨rfl, rfl⟩)
                  | (go_at_call 21; refine HTK.out.mono ?_; rintro e7 w7 ⟨A7, c7, rfl, h7⟩; have b7 : Below wr.heap.size wr w7 := ((Below.refl _ wr).drew).trans h7.out.2; have k6 := HAL.out _ b7; have k7 := HC2.out _ A7 c7 h7.out.1; have HT7 := Lib.hid (hT.out.below b7); clear b7))
                all_goals
                  go_wp2_with fail
                  exact ⟨⟨i + 1, rfl, by omega, HT7⟩, by simp only [intOf]; omega⟩
              · obtain rfl : i = nl := by omega
                go_wp2_with fail
                exact ⟨⟨k + 1, m2, L2, rfl, by omega, Lib.hid ⟨hT.out, HS.out.2⟩⟩, by simp only [intOf]; omega⟩
      by_cases h1 : kd = 1
      · as_aux_lemma =>
          obtain ⟨⟨L2, num, err⟩, hF⟩ : ∃ q, openF sites L si = q := ⟨_, rfl⟩
          have HP := Lib.hid (HU.out.1.open (by have := HU.out.2.2.1; omega) si hF)
          have HF := Lib.hid hF
          clear hF
          subst h1
          go_wp2_with fail
          refine HP.out.mono ?_
          rintro e3 w3 ⟨rfl, h3⟩
          have q2 := (h3.out.2.bn (.inr rfl) HU.out.2.1).cell 2
          simp only [List.getElem?_cons_succ, List.getElem?_cons_zero] at q2
          have HR := Lib.hid (h3.out.1.ropen (by have := HU.out.2.2.1; omega) si HF.out)
          clear h3
          go_wp2_with fail
          refine HR.out.mono ?_
          rintro e4 w4 ⟨rfl, h4⟩
          obtain ⟨m2, hm2⟩ : ∃ m2, m = m2 := ⟨_, rfl⟩
          have HS := Lib.hid (And.intro (h4.out.1.less (Y := fun _ => False) fun _ h => h.elim) (show L2.length ≤ k + 1 ∧ m ≤ k + 1 by have := openF_len HF.out; have := HU.out.2.2.1; omega))
          rw [hm2] at HS
          clear h4 hm2
          go_wp2_with fail
          go_meet
          case rel => exact ⟨m2, L2, HS⟩
      by_cases h2 : kd = 2
      · as_aux_lemma =>
          obtain ⟨⟨L2, num, tok, err⟩, hF⟩ : ∃ q, beginF L nb op = q := ⟨_, rfl⟩
          obtain ⟨tl2, htl2⟩ : ∃ tl2, tok.length = tl2 := ⟨_, rfl⟩
          have HP := Lib.hid (HU.out.1.begin (by have := HU.out.2.2.1; omega) (by have := HU.out.2.2.1; omega) nb op HX.out.1.2.2.2.1 hF tl2 htl2)
          have HF := Lib.hid (And.intro hF htl2)
          clear hF htl2
          subst h2
          go_wp2_with fail
          refine HP.out.mono ?_
          rintro e3 w3 ⟨A3, c3, m2, rfl, hm3, h3⟩
          have hb3 := h3.out.2.1.bn (.inr rfl) HU.out.2.1
          have q1 := hb3.cell 1
          have q3 := hb3.cell 3
          simp only [List.getElem?_cons_succ, List.getElem?_cons_zero] at q1 q3
          have HR := Lib.hid (h3.out.1.rbegin (by have := HU.out.2.2.1; omega) HU.out.2.2.2 nb op HF.out.1 tl2 HF.out.2)
          clear hb3
          go_wp2_with fail
          refine HR.out.mono ?_
          rintro e4 w4 ⟨A4, c4, rfl, h4⟩
          have kc1 := HCV.out w4 A3 c3 tl2 tok HF.out.2 (h4.out.2.1.ns2 h4.out.1 HF.out.2 (fun j hj => .inr hj) h3.out.2.2)
          have kc2 := HCV.out w4 A4 c4 tl2 tok HF.out.2 h4.out.2.2
          obtain ⟨S0, hS0⟩ : ∃ S0, strOfNums tok = S0 := ⟨_, rfl⟩
          rw [hS0] at kc1 kc2
          have HS := Lib.hid (And.intro (h4.out.1.less (Y := fun _ => False) fun _ h => h.elim) (show L2.length ≤ k + 1 ∧ m2 ≤ k + 1 by have := beginF_len HF.out.1; have := HU.out.2.2.1; omega))
          clear h3 h4 hS0 hm3
          go_wp2_with fail
          go_meet
          case rel => exact ⟨m2, L2, HS⟩
      by_cases h3 : kd = 3
      · as_aux_lemma =>
          obtain ⟨⟨L2, num, ok⟩, hF⟩ : ∃ q, endF L op tk.1 = q := ⟨_, rfl⟩
          have HP := Lib.hid (HU.out.1.end (by have := HU.out.2.2.1; omega) op HX.out.1.2.2.2.1 tk tl HX.out.2.2 HX.out.1.2.2.2.2 HX.out.2.1 hF)
          have HF := Lib.hid hF
          clear hF
          subst h3
          go_wp2_with fail
          refine HP.out.mono ?_
          rintro e3 w3 ⟨rfl, h3⟩
          have hb3 := h3.out.2.bn (.inr rfl) HU.out.2.1
          have q3 := hb3.cell 3
          have q4 := hb3.cell 4
          simp only [List.getElem?_cons_succ, List.getElem?_cons_zero] at q3 q4
          have HR := Lib.hid (h3.out.1.rend (by have := HU.out.2.2.1; omega) HU.out.2.2.2 op tk tl HX.out.2.2 HX.out.1.2.2.2.2 HX.out.2.1 HF.out)
          clear h3 hb3
          go_wp2_with fail
          refine HR.out.mono ?_
          rintro e4 w4 ⟨rfl, h4⟩
          obtain ⟨m2, hm2⟩ : ∃ m2, m = m2 := ⟨_, rfl⟩
          have HS := Lib.hid (And.intro (h4.out.1.less (Y := fun _ => False) fun _ h => h.elim) (show L2.length ≤ k + 1 ∧ m ≤ k + 1 by have := endF_len HF.out; have := HU.out.2.2.1; omega))
          rw [hm2] at HS
          clear h4 hm2
          go_wp2_with fail
          go_meet
          case rel => exact ⟨m2, L2, HS⟩
      by_cases h4 : kd = 4
      · as_aux_lemma =>
          obtain ⟨⟨L2, err⟩, hF⟩ : ∃ q, goF sites L nb si = q := ⟨_, rfl⟩
          have HUD := Lib.hid (HU.out.1.below (Below.refl _ _).drew)
          have HP := Lib.hid (HUD.out.go (by have := HU.out.2.2.1; omega) nb si hF)
          have HF := Lib.hid hF
          have hb0 := HU.out.2.1
          have p1 := hb0.cell 1
          have p2 := hb0.cell 2
          simp only [List.getElem?_cons_succ, List.getElem?_cons_zero] at p1 p2
          clear hF hb0
          subst h4
          go_wp2_with fail
          go_region_held (fun V => V.cell? ⟨wr.heap.size, 1, none⟩ = some (.int .i64 nb) ∧ V.cell? ⟨wr.heap.size, 2, none⟩ = some (.int .i64 si)) (first | exact ⟨p1, p2⟩ | exact ⟨q1, q2⟩ | exact ⟨r1, r2⟩)
            (first
            | (go_at_call 14; refine HP.out.mono ?_; rintro e3 w3 ⟨rfl, h3⟩; have hb3 := h3.out.2.bn (.inr rfl) (show Bn wr.heap.size _ _ _ from HU.out.2.1.same rfl); have q1 := hb3.cell 1; have q2 := hb3.cell 2; simp only [List.getElem?_cons_succ, List.getElem?_cons_zero] at q1 q2; have HR := Lib.hid (h3.out.1.rgo (by have := HU.out.2.2.1; omega) HU.out.2.2.2 nb si HF.out))
            | (go_at_call 15; refine HR.out.mono ?_; rintro e4 w4 ⟨rfl, h4⟩; have hb4 := h4.out.2.bn (.inr rfl) hb3; have r1 := hb4.cell 1; have r2 := hb4.cell 2; simp only [List.getElem?_cons_succ, List.getElem?_cons_zero] at r1 r2))
          all_goals
            have HS := Lib.hid (And.intro (h4.out.1.less (Y := fun _ => False) fun _ h => h.elim) (show L2.length ≤ k + 1 ∧ m ≤ k + 1 by have := goF_len HF.out; have := HU.out.2.2.1; omega))
            clear h3 h4 hb3 hb4
            go_wp2_with fail
            go_meet
            case rel => exact ⟨m, L2, HS⟩
      by_cases h5 : kd = 5
      · as_aux_lemma =>
          obtain ⟨nO, hnO⟩ : ∃ q, (lostO L si).length = q := ⟨_, rfl⟩
          have HUD := Lib.hid (HU.out.1.below (Below.refl _ _).drew)
          have HP := Lib.hid (HUD.out.lost (by have := HU.out.2.2.1; omega) si nO hnO)
          have hnb : nO ≤ 140737488355328 := by have := lostO_le L si L.length; rw [List.take_length] at this; have := HU.out.2.2.1; omega
          have HF := Lib.hid hnO
          have hb0 := HU.out.2.1
          have p2 := hb0.cell 2
          simp only [List.getElem?_cons_succ, List.getElem?_cons_zero] at p2
          clear hnO hb0
          subst h5
          go_wp2_with fail
          go_region_held (fun V => V.cell? ⟨wr.heap.size, 2, none⟩ = some (.int .i64 si)) (first | exact p2 | exact q2 | exact r2 | exact t2)
            (first
            | (go_at_call 17; refine HP.out.mono ?_; rintro e3 w3 ⟨A3, c3, rfl, h3⟩; have hb3 := h3.out.2.1.bn (.inr rfl) (show Bn wr.heap.size _ _ _ from HU.out.2.1.same rfl); have q2 := hb3.cell 2; simp only [List.getElem?_cons_succ, List.getElem?_cons_zero] at q2; have HR := Lib.hid (h3.out.1.rlost (by have := HU.out.2.2.1; omega) HU.out.2.2.2 si nO HF.out))
            | (go_at_call 18; refine HR.out.mono ?_; rintro e4 w4 ⟨A4, c4, rfl, h4⟩; have hb4 := h4.out.2.1.bn (.inl (.inr rfl)) hb3; have r2 := hb4.cell 2; simp only [List.getElem?_cons_succ, List.getElem?_cons_zero] at r2; have HSM := Lib.hid (same_any A3 A4 c3 c4 nO (lostO L si) HF.out w4 (h4.out.2.1.ns2 h4.out.1 HF.out (fun j hj => .inr hj) h3.out.2.2) h4.out.2.2 hnb))
            | (go_at_call 16; refine HSM.out.mono ?_; rintro e5 w5 ⟨rfl, b5⟩; have t2 := (b5.cell (p := ⟨wr.heap.size, 2, none⟩) (World.block_lt_of_cell? _ _ r2)).trans r2))
          all_goals
            have HS := Lib.hid (And.intro ((h4.out.1.less (Y := fun _ => False) fun _ h => h.elim).below b5) (show (lostF L si).length ≤ k + 1 ∧ m ≤ k + 1 by have := lostF_len L si; have := HU.out.2.2.1; omega))
            clear h3 h4 hb3 hb4 b5
            go_wp2_with fail
            go_meet
            case rel => exact ⟨m, lostF L si, HS⟩
      · as_aux_lemma =>
          have f1 : (kd == 1) = false := by simp [h1]
          have f2 : (kd == 2) = false := by simp [h2]
          have f3 : (kd == 3) = false := by simp [h3]
          have f4 : (kd == 4) = false := by simp [h4]
          have f5 : (kd == 5) = false := by simp [h5]
          have HS := Lib.hid (And.intro (HU.out.1.less (Y := fun _ => False) fun _ h => h.elim) (show L.length ≤ k + 1 ∧ m ≤ k + 1 by have := HU.out.2.2.1; omega))
          clear h1 h2 h3 h4 h5
          go_wp2_with fail
          go_meet
          case rel => exact ⟨m, L, HS⟩
    · obtain rfl : k = n := by omega
      go_wp2_with fail
      go_ret
      exact ⟨rfl, hst.out.1.old⟩
-- ROW BEGIN
set_option maxRecDepth 100000 in
/-- What the walk gives, shut again. -/
theorem contract (H : Type) (enc : TypeId × Value → H) (W : World) (base : Nat) (args : Array Value) (ds gs : List (DataW H)) (before : List MemPlace)
    (hval : ∀ (j : Nat) t v, Try.f3.params[j]? = some t → args[j]? = some v → Value.okWide Try.prog W .any base t v)
    (hW : DataW.Whole enc Try.prog Try.f3.params.toList Rows.sessPlaysSpec.vars false W args.toList ds gs before)
    (hsz : (DataW.weightsEach Try.prog (Try.f3.params.toList ++ Rows.sessPlaysSpec.plain.varTypes Try.prog) (ds ++ gs)).all (· ≤ reachBytes) = true) :
    Calls Try.prog 3 args W fun e W' => ∃ v, e = .returned v ∧ Rows.sessPlaysSpec.post enc Try.prog Try.f3 false true false false W args v W' := by
  have hW' := hW
  obtain ⟨p, q, hA0, hV, hbef, _, _⟩ := hW
  have hA : DataW.TrodAll enc Try.prog W 0 (fun _ => true) true Try.f3.params.toList args.toList ds p := hA0
  have hA1 := hA
  rw [Try.params3] at hA hval hsz
  obtain ⟨v0, vs0, d0, ds0, p0, q0, hargs, rfl, rfl, h0, r0⟩ := trodAll_cons hA
  obtain ⟨v1, vs1, d1, ds1, p1, q1, rfl, rfl, rfl, h1, r1⟩ := trodAll_cons r0
  obtain ⟨rfl, rfl, rfl⟩ := trodAll_nil r1
  obtain rfl : args = #[v0, v1] := by cases args; simp_all
  obtain ⟨rfl, rfl⟩ := trodVars_none hV
  clear hA hargs
  obtain ⟨a0, rfl, rfl, _, w0⟩ := open_int Try.underlying3 (hval 0 3 v0 rfl rfl) h0
  obtain ⟨A1, c1, a1, rfl, n1, w1, b1, l1⟩ := Sess.arg_ops (hval 1 22 v1 rfl rfl) h1 (Wgt.wt_arg hsz (j := 1) rfl rfl)
  refine (walk W a0 (wf_int w0) A1 c1 a1 n1 w1 b1 l1).mono fun e W' ⟨he, hb⟩ => ?_
  subst he
  exact ⟨_, rfl, law_post Facts.laid (by rfl) Try.underlying4 (by rw [Try.params3]; decide +kernel) hW' hA1 rfl hbef rfl rfl rfl hb⟩

set_option maxRecDepth 100000 in
theorem lifted (os : Os) (started : os.Started) (H : Type) (enc : TypeId × Value → H) :
    ReturnsInHanded {} Try.checked os 3 .any (Rows.sessPlaysSpec.pre6 enc Try.prog Try.f3 Rows.sessPlaysRow.domain false) (Rows.sessPlaysSpec.post enc Try.prog Try.f3 false true false false) := by
  refine returnsInHanded_of_change_sized (C := Try.checked) Facts.own started (by kernel_rfl) Try.func3
    (ChangeSpec.witness6 (enc := enc) (C := Try.checked) false ⟨#[], #[.int .i64 0, .slice none 0 0], []⟩ 8 (by kernel_rfl) (by kernel_rfl) (by kernel_rfl) (by kernel_rfl)) ?_
  intro W base args ds gs before hval hW _ hsz _
  exact contract H enc W base args ds gs before hval hW hsz

theorem holds : Rows.SessPlaysSaid :=
  OpenClaim.holds_of_wide 3 Try.f3 rfl rfl rfl rfl rfl rfl rfl ⟨rfl, rfl, rfl, rfl, rfl⟩ rfl rfl rfl rfl rfl (by kernel_rfl) Try.func3 (by kernel_rfl)
    (of_decide_eq_true (by kernel_rfl)) (by unfold Func.isWrapper; first | (rw [if_pos (by decide +kernel)]; kernel_rfl) | (rw [if_neg (by decide +kernel)]; exact ⟨rfl, rfl⟩))
    (fun os started H enc _ => lifted os started H enc)
-- ROW END
end SessPlays
end Go.Proofs.Ytnmkhccgaedigaa
