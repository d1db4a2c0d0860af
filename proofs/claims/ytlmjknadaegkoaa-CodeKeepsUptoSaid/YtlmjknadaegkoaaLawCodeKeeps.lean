/-
  CodeKeeps (P6.5): what is handed in stays, and what is read is new memory. Up to a bulk.
-/
import Derived.Test.YtlmjknadaegkoaaCodeAwake
import Derived.Test.YtlmjknadaegkoaaCodeSpoil
import Derived.Test.YtlmjknadaegkoaaGCodeB
import Derived.Test.YtlmjknadaegkoaaGNumA
namespace Go.Proofs.Ytlmjknadaegkoaa
namespace CodeKeeps
open Go.ChangeShapes Go.WideShapes Go.ChangeAt Go.RowKit Num Span Vers Go.Proofs.Ytlmjknadaegkoaa.Code
attribute [local go_sem ↓] Go.wp_at_zero Go.wp_at_succ

theorem mcc10 (m : Ms) (a : Pl) : (mcc m a)[10]? = some (.slice a.1.1 m.2.2.2.2.2.2.2.2.1.length a.1.2) ∧ (mcc m a)[11]? = some (.slice a.2.1.1 m.2.2.2.2.2.2.2.2.2.1.length a.2.1.2) := by
  obtain ⟨kind, ⟨f1, f2⟩, ⟨t1, t2⟩, id, n, for_, code, key, recs, vec, path, hashes, route⟩ := m
  obtain ⟨⟨A8, c8⟩, ⟨A9, c9⟩, ⟨A10, c10⟩, ⟨A11, c11⟩, ⟨A12, c12⟩⟩ := a
  exact ⟨rfl, rfl⟩
/-- What was read, and how it may be written over. -/
theorem read_soft {m : Ms} {a : Pl} {w : World} {lo : Nat} (h : MsgO lo w m a) : Deep lo w.heap.size w a.1.1 m.2.2.2.2.2.2.2.2.1.length ∧ ∀ i, i < m.2.2.2.2.2.2.2.2.2.1.length → ∃ g, a.2.1.1 = some ⟨g, 0, none⟩ ∧ ∀ v, SoftAt lo w.heap.size w g i v := by
  obtain ⟨kind, ⟨f1, f2⟩, ⟨t1, t2⟩, id, n, for_, code, key, recs, vec, path, hashes, route⟩ := m
  obtain ⟨⟨A8, c8⟩, ⟨A9, c9⟩, ⟨A10, c10⟩, ⟨A11, c11⟩, ⟨A12, c12⟩⟩ := a
  obtain ⟨⟨h1, ps, h2, h3⟩, h4, _⟩ := h
  exact ⟨deep_is h3 (by rw [← h2, List.length_map]), vec_soft h4 (Nat.le_refl _)⟩
set_option maxRecDepth 100000 in
set_option maxHeartbeats 4000000 in
theorem walk (w : World) (m : Ms) (a : Pl) (hI : MsgI w 0 w.heap.size m a) (hf : Fit m) (hbulk : m.2.2.2.2.2.2.2.2.1.length ≤ 1048576) :
    Calls Try.prog 6 #[.agg (mcc m a).toArray] w fun e w' => e = .returned (.bool true) ∧ Below w.heap.size w w' := by
  obtain ⟨B, hB⟩ : ∃ B, w.heap.size = B := ⟨_, rfl⟩
  rw [hB] at hI ⊢
  have hm : ∀ W, Below B w W → MsgI W 0 W.heap.size m a := fun W h => hI.below h (by have := h.size; omega)
  have c1 := fun W (h : Below B w W) => putmsg_at m a hf (fun hk => msgL_short hk hbulk) W (hm W h)
  have c3 := fun a' W (h : Below B w W) (h' : MsgI W 0 W.heap.size m a') => same_at m a' a hf W h' (hm W h)
  have hms := fun a' => mv_is m a'
  have hla := hms a
  obtain ⟨L, hL⟩ : ∃ L, mcc m a = L := ⟨_, rfl⟩
  rw [hL] at c1 c3 hla ⊢
  obtain ⟨⟨x, e⟩, hP⟩ : ∃ r, putMsgF m = r := ⟨_, rfl⟩
  rw [hP] at c1
  obtain ⟨k, hk⟩ : ∃ k, x.length = k := ⟨_, rfl⟩
  have c2 : e = 0 → okM m ∧ ∀ (A2 : Option Addr) (c2 : Nat) (W : World), k ≤ c2 → Ns .u8 W W.heap.size A2 x → Calls Try.prog 15 #[.slice A2 k c2] W (GotMsg W.heap.size (m, 0) W) := by
    intro he
    subst he
    obtain ⟨o1, o2, rfl⟩ := putMsgF_ok hP
    refine ⟨o1, fun A2 c2 W hc2 hN => ?_⟩
    have hfl := Frm.frame_len (msgL m)
    have hpl := putL_len ((msgL m).length : Int)
    have h := msg_any A2 c2 k (Frm.frameF (msgL m)) hk W hN (Frm.frame_bytes (msgL_fine o1 hf.1)) hc2 (by omega)
    rwa [msg_back o1 hf.1 o2] at h
  obtain ⟨W, hW⟩ : ∃ W, w.alloc (.cells L.toArray 43) = W := ⟨_, rfl⟩
  have hb0 : Below B w W := by rw [← hW, ← hB]; exact (Below.refl _ w).alloc (Nat.le_refl _) _
  have hg0 : W.heap[B]? = some (.cells L.toArray 43 (0, 0)) := by rw [← hW, ← hB]; exact heap_alloc_new _ _
  have hsB : ∀ V, Below B w V → B ≤ V.heap.size := fun V h => by have := h.size; omega
  have hBW : B < W.heap.size := (Array.getElem?_eq_some_iff.1 hg0).1
  obtain ⟨lo, hlo⟩ : ∃ lo, W.heap.size = lo := ⟨_, rfl⟩
  have H0 := Lib.hid (And.intro hb0 (And.intro hsB (And.intro hlo (And.intro hBW hg0))))
  have HC := Lib.hid (And.intro c1 (And.intro c2 (And.intro c3 (And.intro hms hk))))
  have hnb : m.2.2.2.2.2.2.2.2.1.length ≤ 140737488355328 ∧ m.2.2.2.2.2.2.2.2.2.1.length ≤ 140737488355328 := ⟨by omega, hf.2.2.1⟩
  clear hm c1 c2 c3 hms hb0 hsB hP hk hI hf hbulk hL hlo hBW
  have hsz := hla.1
  have HNB := Lib.hid hnb
  clear hnb
  go_enter Try.func6, Try.ntmps6
  go_wp2_with (refine wpList_load_row rfl 43 _ rfl _ rfl 43 _ _ _ hg0 Try.underlying43 rfl hsz ?_)
  refine (HC.out.1 W H0.out.1).mono ?_
  rintro e1 w1 ⟨A1, c1, rfl, o1, d1⟩
  have hcap := own_cap o1
  rw [show (x, e).1 = x from rfl, HC.out.2.2.2.2] at hcap o1 ⊢
  rw [show (x, e).2 = e from rfl]
  have HA := Lib.hid (And.intro (H0.out.1.trans (d1.mono (H0.out.2.1 _ H0.out.1))) (And.intro (own_ns (zs := x) (by rw [HC.out.2.2.2.2]; exact o1)) (And.intro o1 d1)))
  clear o1 d1
  go_wp2_with fail
  refine (awake_any w1).mono ?_
  rintro e2 w2 ⟨rfl, d2⟩
  have HB := Lib.hid (And.intro (HA.out.1.trans (d2.mono (H0.out.2.1 _ HA.out.1))) (And.intro ((HA.out.2.1.below d2).more d2.size) d2))
  clear d2
  by_cases he : e = 0
  · subst he
    have hko := (HC.out.2.1 (by simp)).1
    have cm := (HC.out.2.1 (by simp)).2
    have HK := Lib.hid (And.intro hko cm)
    clear hko cm
    go_wp2_with fail
    refine (HK.out.2 A1 c1 w2 hcap HB.out.2.1).mono ?_
    rintro e3 w3 ⟨a3, rfl, o3, d3⟩
    rw [show (m, (0 : Int)).1 = m from rfl] at o3 ⊢
    rw [show (m, (0 : Int)).2 = 0 from rfl]
    have b3 := HB.out.1.trans (d3.mono (H0.out.2.1 _ HB.out.1))
    have hla3 := HC.out.2.2.2.1 a3
    have hcc := mcc10 m a3
    have hso := read_soft o3
    obtain ⟨L3, hL3⟩ : ∃ L, mcc m a3 = L := ⟨_, rfl⟩
    rw [hL3] at hla3 hcc ⊢
    obtain ⟨hi, hhi⟩ : ∃ hi, w3.heap.size = hi := ⟨_, rfl⟩
    obtain ⟨W3, hW3⟩ : ∃ W, w3.alloc (.cells L3.toArray 43) = W := ⟨_, rfl⟩
    have gx : W3.heap[hi]? = some (.cells L3.toArray 43 (0, 0)) := by rw [← hW3, ← hhi]; exact heap_alloc_new _ _
    have gk3 : ∀ q, q < hi → W3.heap[q]? = w3.heap[q]? := fun q hq => by rw [← hW3]; exact Below.heap_alloc _ _ _ (by omega)
    have b3' : Below B w W3 := by rw [← hW3]; exact b3.alloc (H0.out.2.1 _ b3) _
    have d3' : Below w2.heap.size w2 W3 := by rw [← hW3]; exact d3.alloc d3.size _
    have hsz3 := hla3.1
    have hone3 := hla3.2
    have hl3 := mv_len hla3
    rw [hhi] at hso
    have hWs : W3.heap.size = hi + 1 := by rw [← hW3, ← hhi]; simp
    have HD := Lib.hid (And.intro b3' (And.intro ((HB.out.2.1.below d3').more d3'.size) (And.intro gx (And.intro gk3 (And.intro hcc (And.intro hso (And.intro d3' (And.intro d3 (And.intro hWs hhi)))))))))
    clear b3 b3' o3 d3 d3' hla3 hcc hso gx gk3 hL3 hWs hhi
    go_wp2_with (refine wpList_store_row rfl 43 _ _ rfl _ L3.toArray rfl rfl 43 _ (heap_alloc_new _ _) hsz3 hl3.symm hone3 ?_; simp only [World.setRow_alloc_new])
    rw [HD.out.2.2.2.2.2.2.2.2.2]
    refine (HK.out.2 A1 c1 W3 hcap HD.out.2.1).mono ?_
    rintro e4 w4 ⟨a4, rfl, o4, d4⟩
    rw [show (m, (0 : Int)).1 = m from rfl] at o4 ⊢
    rw [show (m, (0 : Int)).2 = 0 from rfl]
    have b4 := HD.out.1.trans (d4.mono (H0.out.2.1 _ HD.out.1))
    have hla4 := HC.out.2.2.2.1 a4
    obtain ⟨V, hV⟩ : ∃ V, w4.alloc (.cells (mcc m a4).toArray 43) = V := ⟨_, rfl⟩
    obtain ⟨s4, hs4⟩ : ∃ s, w4.heap.size = s := ⟨_, rfl⟩
    have g4 : V.heap[s4]? = some (.cells (mcc m a4).toArray 43 (0, 0)) := by rw [← hV, ← hs4]; exact heap_alloc_new _ _
    have hVs : V.heap.size = s4 + 1 := by rw [← hV, ← hs4]; simp
    have hs43 : hi + 1 ≤ s4 := by have := d4.size; have := HD.out.2.2.2.2.2.2.2.2.1; omega
    have gk4 : ∀ q, q < hi + 1 → V.heap[q]? = W3.heap[q]? := fun q hq => by rw [← hV]; exact (Below.heap_alloc _ _ _ (by omega)).trans (d4.block q (by have := HD.out.2.2.2.2.2.2.2.2.1; omega))
    have b5 : Below B w V := by rw [← hV]; exact b4.alloc (H0.out.2.1 _ b4) _
    have hlo1 : lo ≤ w1.heap.size ∧ w1.heap.size ≤ w2.heap.size ∧ w2.heap.size ≤ hi := by
      have h1 := HA.out.2.2.2.size
      have h2 := HB.out.2.2.size
      have h3 := HD.out.2.2.2.2.2.2.2.1.size
      have h4 := HD.out.2.2.2.2.2.2.2.2.2
      have h5 := H0.out.2.2.1
      omega
    -- the bytes, the records, the vector: written over between lo and hi
    have hq1 : ∀ i, i < k → ∃ g, A1 = some ⟨g, 0, none⟩ ∧ ByteAt lo hi V g i := fun i hik => by
      obtain ⟨g, e, hby⟩ := byte_soft (lo := lo) (hi := w1.heap.size) (W := w1) (own_base HA.out.2.2.1 (Nat.le_of_eq H0.out.2.2.1.symm)) (Nat.le_refl _) i hik
      refine ⟨g, e, (hby.keep (W' := V) fun q hq => ?_).high (by omega)⟩
      exact (gk4 q (by omega)).trans ((HD.out.2.2.2.1 q (by omega)).trans ((HD.out.2.2.2.2.2.2.2.1.block q (by omega)).trans (HB.out.2.2.block q hq)))
    have hq2 : Deep lo hi V a3.1.1 m.2.2.2.2.2.2.2.2.1.length := ((HD.out.2.2.2.2.2.1.1).low (by omega)).keep fun q hq => (gk4 q (by omega)).trans (HD.out.2.2.2.1 q hq)
    have hq3 : ∀ i, i < m.2.2.2.2.2.2.2.2.2.1.length → ∃ g, a3.2.1.1 = some ⟨g, 0, none⟩ ∧ ∀ v, SoftAt lo hi V g i v := fun i hi' => by
      obtain ⟨g, e, h⟩ := HD.out.2.2.2.2.2.1.2 i hi'
      exact ⟨g, e, fun v => by
        have h := (h v).keep (W' := V) fun q hq => (gk4 q (by omega)).trans (HD.out.2.2.2.1 q hq)
        exact ⟨by have := h.1; omega, h.2⟩⟩
    have gx := (gk4 hi (by omega)).trans HD.out.2.2.1
    have gm : V.heap[B]? = some (.cells L.toArray 43 (0, 0)) := by
      have hBlo : B < lo := by have := H0.out.2.2.1; have := H0.out.2.2.2.1; omega
      have h1 := HA.out.2.2.2.block B (by have := H0.out.2.2.1; omega)
      exact (gk4 B (by omega)).trans ((HD.out.2.2.2.1 B (by omega)).trans ((HD.out.2.2.2.2.2.2.2.1.block B (by omega)).trans ((HB.out.2.2.block B (by omega)).trans (h1.trans H0.out.2.2.2.2))))
    have hkx : ∀ wr, Spo lo hi V wr → wr.cell? ⟨hi, 10, none⟩ = some (.slice a3.1.1 m.2.2.2.2.2.2.2.2.1.length a3.1.2) ∧ wr.cell? ⟨hi, 11, none⟩ = some (.slice a3.2.1.1 m.2.2.2.2.2.2.2.2.2.1.length a3.2.1.2) := fun wr h => by
      have h1 := (h.high (Nat.le_refl hi)).trans gx
      rw [cell_of_row wr hi 10 _ _ _ h1, cell_of_row wr hi 11 _ _ _ h1]
      exact ⟨by simpa using HD.out.2.2.2.2.1.1, by simpa using HD.out.2.2.2.2.1.2⟩
    -- behind it all: the second reading, and what was handed in
    have hend : ∀ wr, Spo lo hi V wr → Below B w wr ∧ wr.heap[B]? = some (.cells L.toArray 43 (0, 0)) ∧ wr.heap[s4]? = some (.cells (mcc m a4).toArray 43 (0, 0)) ∧ Calls Try.prog 16 #[.agg (mcc m a4).toArray, .agg L.toArray] wr (fun e w' => e = .returned (.bool true) ∧ Below wr.heap.size wr w') := fun wr h => by
      have hBlo : B < lo := by have := H0.out.2.2.1; have := H0.out.2.2.2.1; omega
      have hbw := b5.trans (h.1.mono (Nat.le_of_lt hBlo))
      refine ⟨hbw, (h.1.block B hBlo).trans gm, (h.high (by omega)).trans g4, HC.out.2.2.1 a4 wr hbw ?_⟩
      have ho : MsgO W3.heap.size wr m a4 := o4.keep (by rw [h.2.1, hVs]; omega) fun q h1 h2 => by
        refine (h.high (by have := HD.out.2.2.2.2.2.2.2.2.1; omega)).trans ?_
        rw [← hV]
        exact Below.heap_alloc _ _ _ h2
      exact ho.shown HK.out.1
    obtain ⟨L4, hL4⟩ : ∃ L, mcc m a4 = L := ⟨_, rfl⟩
    rw [hL4] at hla4 hV hend ⊢
    obtain ⟨n8, hn8⟩ : ∃ n, m.2.2.2.2.2.2.2.2.1.length = n := ⟨_, rfl⟩
    obtain ⟨n9, hn9⟩ : ∃ n, m.2.2.2.2.2.2.2.2.2.1.length = n := ⟨_, rfl⟩
    obtain ⟨⟨A8, c8⟩, ⟨A9, c9⟩, a3'⟩ := a3
    simp only [hn8, hn9] at hq2 hq3 hkx
    have hsz4 := hla4.1
    have hone4 := hla4.2
    have hl4 := mv_len hla4
    have hs0 : Hid (Spo lo hi V V) := Lib.hid (spo_refl lo hi V)
    have HQ1 := Lib.hid hq1
    have HQ2 := Lib.hid hq2
    have HQ3 := Lib.hid hq3
    have HX := Lib.hid hkx
    have HE := Lib.hid hend
    have HS4 := Lib.hid hs4
    have hkb : k ≤ 9223372036854775807 := own_le HA.out.2.2.1
    have hn8b : n8 ≤ 140737488355328 := by rw [← hn8]; exact HNB.out.1
    have hn9b : n9 ≤ 140737488355328 := by rw [← hn9]; exact HNB.out.2
    clear hs4 hq1 hq2 hq3 hkx hend b4 o4 d4 g4 hVs hs43 gk4 b5 hlo1 gx gm hla4 hL4 hn8 hn9 hcap HA HB HD
    go_wp2_with (refine wpList_store_row rfl 43 _ _ rfl _ L4.toArray rfl rfl 43 _ (heap_alloc_new _ _) hsz4 hl4.symm hone4 ?_; simp only [World.setRow_alloc_new])
    rw [HS4.out]
    go_loopw [9] (fun iv wr => ∃ i : Nat, iv = .int .i64 i ∧ i ≤ k ∧ Hid (Spo lo hi V wr)) (fun iv _ => k - (intOf iv).toNat)
    case atStart => exact ⟨0, rfl, by omega, hs0⟩
    case round =>
      obtain ⟨i, rfl, hik, hs⟩ := hrel
      by_cases hlt : i < k
      · obtain ⟨g, e1, hby⟩ := HQ1.out i hlt
        obtain ⟨z, hz, hfz, hset⟩ := hs.out.byte hby
        subst e1
        have HZ := Lib.hid hset
        have d1 : (0 : Int) ≤ (i : Int) := by omega
        have d2 : (i : Int) < (k : Int) := by omega
        clear hset hby hs
        go_wp2_with fail
        exact ⟨⟨i + 1, rfl, by omega, Lib.hid (HZ.out _)⟩, by simp only [intOf]; omega⟩
      · have hik' : i = k := by omega
        subst hik'
        clear HQ1 hlt
        go_wp2_with fail
        go_loopw [10] (fun iv wr => ∃ i : Nat, iv = .int .i64 i ∧ i ≤ n8 ∧ Hid (Spo lo hi V wr)) (fun iv _ => n8 - (intOf iv).toNat)
        case atStart => exact ⟨0, rfl, by omega, hs⟩
        case round =>
          clear hs
          obtain ⟨i, rfl, hik, hs⟩ := hrel
          have hx10 := (HX.out _ hs.out).1
          by_cases hlt : i < n8
          · obtain ⟨g8, Av, nv, cv, e8, hh8, hnv, hd8⟩ := HQ2.out i hlt
            subst e8
            have hc8 := hs.out.get hh8
            have HH8 := Lib.hid hh8
            have HD8 := Lib.hid hd8
            have d1 : (0 : Int) ≤ (i : Int) := by omega
            have d2 : (i : Int) < (n8 : Int) := by omega
            clear hh8 hd8
            go_wp2_with fail
            go_loopw [11] (fun kv wr => ∃ q : Nat, kv = .int .i64 q ∧ q ≤ nv ∧ Hid (Spo lo hi V wr)) (fun kv _ => nv - (intOf kv).toNat)
            case atStart => exact ⟨0, rfl, by omega, hs⟩
            case round =>
              clear hs hx10 hc8
              obtain ⟨q, rfl, hqn, hs⟩ := hrel
              have hx10 := (HX.out _ hs.out).1
              have hc8 := hs.out.get HH8.out
              by_cases hlq : q < nv
              · obtain ⟨gv, Ap, np, cp, ev, hhv, hsv, hnp, hdv⟩ := HD8.out q hlq
                subst ev
                have hcv := hs.out.get hhv
                obtain ⟨⟨z, hz⟩, hfz, hset⟩ := hs.out.put (hsv (.string ⟨#[115, 112, 111, 105, 108, 116]⟩))
                have HHV := Lib.hid hhv
                have HDV := Lib.hid hdv
                have HS := Lib.hid hset
                have d3 : (0 : Int) ≤ (q : Int) := by omega
                have d4 : (q : Int) < (nv : Int) := by omega
                clear hhv hdv hset hsv hs
                go_wp2_with fail
                go_loopw [12] (fun jv wr => ∃ j : Nat, jv = .int .i64 j ∧ j ≤ np ∧ Hid (Spo lo hi V wr)) (fun jv _ => np - (intOf jv).toNat)
                case atStart => exact ⟨0, rfl, by omega, HS⟩
                case round =>
                  clear hx10 hc8 hcv hz hfz HS
                  obtain ⟨j, rfl, hjn, hs⟩ := hrel
                  have hx10 := (HX.out _ hs.out).1
                  have hc8 := hs.out.get HH8.out
                  have hcv := hs.out.get HHV.out
                  by_cases hlj : j < np
                  · obtain ⟨gp, ep, hsp⟩ := HDV.out j hlj
                    subst ep
                    obtain ⟨⟨z, hz⟩, hfz, hset⟩ := hs.out.put (hsp (.int .i64 (-1)))
                    have HS := Lib.hid hset
                    have d5 : (0 : Int) ≤ (j : Int) := by omega
                    have d6 : (j : Int) < (np : Int) := by omega
                    clear hset hsp hs
                    go_wp2_with fail
                    exact ⟨⟨j + 1, rfl, by omega, HS⟩, by simp only [intOf]; omega⟩
                  · have hjn' : j = np := by omega
                    subst hjn'
                    go_wp2_with fail
                    exact ⟨⟨q + 1, rfl, by omega, hs⟩, by simp only [intOf]; omega⟩
              · have hqn' : q = nv := by omega
                subst hqn'
                go_wp2_with fail
                exact ⟨⟨i + 1, rfl, by omega, hs⟩, by simp only [intOf]; omega⟩
          · have hik' : i = n8 := by omega
            subst hik'
            clear HQ2 hlt
            go_wp2_with fail
            go_loopw [13] (fun iv wr => ∃ i : Nat, iv = .int .i64 i ∧ i ≤ n9 ∧ Hid (Spo lo hi V wr)) (fun iv _ => n9 - (intOf iv).toNat)
            case atStart => exact ⟨0, rfl, by omega, hs⟩
            case round =>
              clear hs hx10
              obtain ⟨i, rfl, hik, hs⟩ := hrel
              have hx11 := (HX.out _ hs.out).2
              by_cases hlt : i < n9
              · obtain ⟨g, e1, hsv⟩ := HQ3.out i hlt
                obtain ⟨⟨z, hz⟩, hfz, hset⟩ := hs.out.put (hsv (.int .i64 (-1)))
                subst e1
                have HS := Lib.hid hset
                have d1 : (0 : Int) ≤ (i : Int) := by omega
                have d2 : (i : Int) < (n9 : Int) := by omega
                clear hset hsv hs
                go_wp2_with fail
                exact ⟨⟨i + 1, rfl, by omega, HS⟩, by simp only [intOf]; omega⟩
              · have hik' : i = n9 := by omega
                subst hik'
                obtain ⟨hbw, gm, g4, hsame⟩ := HE.out _ hs.out
                have HS := Lib.hid hsame
                have HBW := Lib.hid hbw
                clear hsame hbw hs hlt
                go_wp2_with (first
                  | (refine load_row_w (by rfl) 43 _ rfl s4 rfl 43 L4.toArray (0, 0) _ g4 Try.underlying43 rfl hsz4 ?_)
                  | (refine load_row_w (by rfl) 43 _ rfl B rfl 43 L.toArray (0, 0) _ gm Try.underlying43 rfl hsz ?_))
                refine HS.out.mono ?_
                rintro e9 w9 ⟨rfl, d9⟩
                have HO := Lib.hid (HBW.out.trans (d9.mono (H0.out.2.1 _ HBW.out)))
                clear d9
                go_wp2_with fail
                go_ret
                exact ⟨rfl, HO.out⟩
  · have hE1 : (e != 0) = true := by simpa using he
    go_wp2_with fail
    refine (awake_any w2).mono ?_
    rintro e3 w3 ⟨rfl, d3⟩
    have HO := Lib.hid (HB.out.1.trans (d3.mono (H0.out.2.1 _ HB.out.1)))
    clear d3
    go_wp2_with fail
    go_ret
    exact ⟨rfl, HO.out⟩
-- ROW BEGIN
set_option maxRecDepth 100000 in
/-- What the walk gives, shut again. -/
theorem contract (H : Type) (enc : TypeId × Value → H) (W : World) (base : Nat) (args : Array Value) (ds gs : List (DataW H)) (before : List MemPlace)
    (hval : ∀ (j : Nat) t v, Try.f6.params[j]? = some t → args[j]? = some v → Value.okWide Try.prog W .any base t v)
    (hW : DataW.Whole enc Try.prog Try.f6.params.toList Rows.codeKeepsSpec.vars false W args.toList ds gs before)
    (hsz : (DataW.weightsEach Try.prog (Try.f6.params.toList ++ Rows.codeKeepsSpec.plain.varTypes Try.prog) (ds ++ gs)).all (· ≤ reachBytes) = true) (hk : Rows.uptoSmall H (ds ++ gs) = true) :
    Calls Try.prog 6 args W fun e W' => ∃ v, e = .returned v ∧ Rows.codeKeepsSpec.post enc Try.prog Try.f6 false true false false W args v W' := by
  have hW' := hW
  obtain ⟨p, q, hA0, hV, hbef, _, _⟩ := hW
  have hA : DataW.TrodAll enc Try.prog W 0 (fun _ => true) true Try.f6.params.toList args.toList ds p := hA0
  have hA1 := hA
  rw [Try.params6] at hA hval hsz
  obtain ⟨v0, vs0, d0, ds0, p0, q0, hargs, rfl, rfl, h0, r0⟩ := trodAll_cons hA
  obtain ⟨rfl, rfl, rfl⟩ := trodAll_nil r0
  obtain rfl : args = #[v0] := by cases args; simp_all
  obtain ⟨rfl, rfl⟩ := trodVars_none hV
  clear hA hargs
  obtain ⟨a0, l0, rfl, n0, f0, b0⟩ := Code.arg_msg (hval 0 43 v0 rfl rfl) h0 (Vers.wt_arg hsz (j := 0) rfl rfl)
  have hbulk : a0.2.2.2.2.2.2.2.2.1.length ≤ 1048576 := by
    have h := Bulk.bound hk
    simp only [List.append_nil, Rows.uptoBulkAll] at h
    omega
  refine (walk W a0 l0 n0 f0 hbulk).mono fun e W' ⟨he, hb⟩ => ?_
  subst he
  exact ⟨_, rfl, law_post Facts.laid (by rfl) Try.underlying4 (by rw [Try.params6]; decide +kernel) hW' hA1 rfl hbef rfl rfl rfl hb⟩

set_option maxRecDepth 100000 in
theorem lifted (os : Os) (started : os.Started) (H : Type) (enc : TypeId × Value → H) (F : Stop.Interp) :
    ReturnsInHanded {} Try.checked os 6 .any ((Rows.OpenSpec.upto Rows.codeKeepsSpec).pre6 enc Try.prog Try.f6 Rows.codeKeepsUptoRow.domain false) (((Rows.OpenSpec.upto Rows.codeKeepsSpec).at F).post enc Try.prog Try.f6 false true false false) := by
  refine returnsInHanded_of_cond_sized (C := Try.checked) (s := Rows.OpenSpec.upto Rows.codeKeepsSpec) (k := Rows.uptoSmall) rfl Facts.own started (by kernel_rfl) Try.func6
    (OpenSpec.witness (enc := enc) (C := Try.checked) (s := Rows.OpenSpec.upto Rows.codeKeepsSpec) (k := Rows.uptoSmall) rfl false ⟨#[], #[.agg #[.int .i64 0, .int .i64 0, .int .i64 0, .int .i64 0, .int .i64 0, .int .i64 0, .int .i64 0, .int .i64 0, .int .i64 0, .string ⟨#[]⟩, .slice none 0 0, .slice none 0 0, .slice none 0 0, .slice none 0 0, .slice none 0 0]], []⟩ 8 (by kernel_rfl) (by kernel_rfl) (by kernel_rfl)
      (x := ([.agg [.lit (.int .i64 0), .agg [.lit (.int .i64 0), .lit (.int .i64 0)], .agg [.lit (.int .i64 0), .lit (.int .i64 0)], .lit (.int .i64 0), .lit (.int .i64 0), .lit (.int .i64 0), .lit (.int .i64 0), .lit (.string []), .nil, .nil, .nil, .nil, .nil]], [], [])) (by kernel_rfl) rfl (by kernel_rfl)) ?_
  intro W base args ds gs before hval hW _ hk hsz _
  exact contract H enc W base args ds gs before hval hW hsz hk

theorem holds : Rows.CodeKeepsUptoSaid :=
  OpenClaim.holds_of_cond 6 Try.f6 rfl rfl rfl rfl rfl rfl rfl ⟨rfl, rfl, rfl, rfl, rfl⟩ rfl rfl rfl rfl rfl (by kernel_rfl) Try.func6 (by kernel_rfl)
    (of_decide_eq_true (by kernel_rfl)) (by unfold Func.isWrapper; first | (rw [if_pos (by decide +kernel)]; kernel_rfl) | (rw [if_neg (by decide +kernel)]; exact ⟨rfl, rfl⟩))
    (fun os started H enc _ F => lifted os started H enc F)
-- ROW END
end CodeKeeps
end Go.Proofs.Ytlmjknadaegkoaa
