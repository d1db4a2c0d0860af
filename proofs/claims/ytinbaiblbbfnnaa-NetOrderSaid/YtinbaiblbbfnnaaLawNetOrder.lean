/-
  NetOrder (P8.1): nothing is taken that wasn't sent; without losses, copies and spoiling all is taken once, and what is left stays in the order in which it was sent. For every input.
-/
import Derived.Test.YtinbaiblbbfnnaaNetBeside
import Derived.Test.YtinbaiblbbfnnaaNetArgs
import Derived.Test.YtinbaiblbbfnnaaIntsCut
import Derived.Test.YtinbaiblbbfnnaaFrame
namespace Go.Proofs.Ytinbaiblbbfnnaa
namespace NetOrder
open Go.ChangeShapes Go.WideShapes Go.ChangeAt Go.RowKit Net Blk
attribute [local go_sem ↓] Go.wp_at_zero Go.wp_at_succ

/-- The packet of a number. -/
def pkA (l : List PE) (a : Nat) : Pk := (l.getD a pe0).1
def ints (lf : List Nat) : List Int := lf.map Int.ofNat
/-- The row of what is left: none of the network's. -/
def Row (w : World) (F : Nat → Prop) (A : Option Addr) (c n : Nat) (lf : List Nat) (V : World) : Prop :=
  lf.length = n ∧ V.ownsRow 0 3 1 (.slice A n c) n (nums .i64 (ints lf)) ∧ ∀ g, (Value.slice A n c).ownBlock = some g → w.heap.size ≤ g ∧ ¬ F g
/-- The network has just the packets of the numbers. -/
def Lft (w : World) (nb : Nat) (l : List PE) (lf : List Nat) (F : Nat → Prop) (V : World) : Prop := ∃ s t u m, Sit w nb (lf.map (pkA l)) s t u (fun _ _ => false) m F V
section
variable {w V V' : World} {nb : Nat} {l : List PE} {lf : List Nat} {F F' : Nat → Prop} {A : Option Addr} {c n : Nat}
theorem Row.step (h : Row w F A c n lf V) (h2 : Stp F V F' V') : Row w F' A c n lf V' := by
  refine ⟨h.1, own_keep h.2.1 fun g hg => h2.1.block g (h.2.1.lt g hg).2 (h.2.2 g hg).2, fun g hg => ⟨(h.2.2 g hg).1, fun hf => ?_⟩⟩
  rcases h2.2 g hf with q | q
  · exact (h.2.2 g hg).2 q
  · have := (h.2.1.lt g hg).2; omega
theorem Row.below (h : Row w F A c n lf V) (hb : Below V.heap.size V V') : Row w F A c n lf V' := h.step (Stp.of_below hb)
theorem Lft.below (h : Lft w nb l lf F V) (hb : Below V.heap.size V V') : Lft w nb l lf F V' := by
  obtain ⟨s, t, u, m, h⟩ := h
  exact ⟨s, t, u, m, h.below hb⟩
/-- Another row is written, or made. -/
theorem Lft.grown (h : Lft w nb l lf F V) {r : Option Nat} (hg : V.grownBy V' r) (hr : ∀ g, r = some g → w.heap.size ≤ g ∧ ¬ F g) : Lft w nb l lf F V' := by
  obtain ⟨s, t, u, m, h1, h2, h3⟩ := h
  refine ⟨s, t, u, m, h1.chg (G := fun j => r = some j) ⟨hg.os, hg.tape, hg.output, hg.size, fun k hk hn => hg.block k hk fun e => hn e.symm⟩ fun j hj q => (hr j q).2 hj, h2.grown hg h2.size fun j hj => (hr j hj).1, h3⟩
theorem Row.ns (h : Row w F A c n lf V) : Ns .i64 V V.heap.size A (ints lf) := by
  have hl : (ints lf).length = n := by unfold ints; rw [List.length_map]; exact h.1
  exact own_ns (c := c) (n := n) (by rw [hl]; exact h.2.1)
end
theorem ints_at {lf : List Nat} {i a : Nat} (h : lf[i]? = some a) : (ints lf).getD i 0 = (a : Int) := by
  unfold ints
  rw [List.getD_eq_getElem?_getD, List.getElem?_map, h]
  rfl
theorem ints_take (lf : List Nat) (i : Nat) : ints (lf.take i) = (ints lf).take i := List.map_take
theorem ints_drop (lf : List Nat) (i : Nat) : ints (lf.drop i) = (ints lf).drop i := List.map_drop
theorem ints_length (lf : List Nat) : (ints lf).length = lf.length := by simp [ints]
theorem map_erase (lf : List Nat) (f : Nat → Pk) (i : Nat) : (lf.eraseIdx i).map f = (lf.map f).eraseIdx i := by
  rw [List.eraseIdx_eq_take_drop_succ, List.eraseIdx_eq_take_drop_succ, List.map_append, List.map_take, List.map_drop]
theorem map_range (l : List PE) : (List.range l.length).map (pkA l) = l.map Prod.fst := by
  apply List.ext_getElem?
  intro i
  rw [List.getElem?_map, List.getElem?_map]
  by_cases h : i < l.length
  · rw [List.getElem?_range h, List.getElem?_eq_getElem h]
    simp [pkA, List.getD_eq_getElem?_getD, h]
  · rw [List.getElem?_eq_none (by simpa using h), List.getElem?_eq_none (by omega)]
    rfl
theorem pks_at {w : World} {B b off : Nat} {l : List PE} (h : Pks w B (some ⟨b, off, none⟩) l) {j : Nat} (hj : j < l.length) :
    ∃ a1 a2 b1 b2 zs Ad cd, l.getD j pe0 = (((a1, a2), (b1, b2), zs), Ad, cd) ∧ OkP ((a1, a2), (b1, b2), zs) ∧ Ns .u8 w B Ad zs ∧ b < B ∧
      w.cell? ⟨b, off + j * 5, none⟩ = some (.int .i64 a1) ∧ w.cell? ⟨b, off + j * 5 + 1, none⟩ = some (.int .i64 a2) ∧ w.cell? ⟨b, off + j * 5 + 2, none⟩ = some (.int .i64 b1) ∧ w.cell? ⟨b, off + j * 5 + 3, none⟩ = some (.int .i64 b2) ∧ w.cell? ⟨b, off + j * 5 + 4, none⟩ = some (.slice Ad zs.length cd) := by
  obtain ⟨⟨⟨⟨a1, a2⟩, ⟨b1, b2⟩, zs⟩, Ad, cd⟩, hx⟩ : ∃ x, l.getD j pe0 = x := ⟨_, rfl⟩
  obtain ⟨b', off', e, hb, hc⟩ := h.2 (by omega)
  injection e with e
  injection e with e1 e2
  subst e1 e2
  have hm : (((a1, a2), (b1, b2), zs), Ad, cd) ∈ l := by
    rw [← hx, List.getD_eq_getElem?_getD, List.getElem?_eq_getElem hj]
    exact List.getElem_mem _
  obtain ⟨h1, h2⟩ := h.1 _ hm
  have hcj := hc j hj
  rw [hx] at hcj
  exact ⟨a1, a2, b1, b2, zs, Ad, cd, hx, h2, h1, hb, hcj 0 _ rfl, hcj 1 _ rfl, hcj 2 _ rfl, hcj 3 _ rfl, hcj 4 _ rfl⟩

set_option maxRecDepth 100000 in
set_option maxHeartbeats 4000000 in
theorem walk (w : World) (A : Option Addr) (c : Nat) (l : List PE) (hp : Pks w w.heap.size A l) (_hb : l.length * 56 ≤ 140737488351232) (_hlc : l.length ≤ c)
    (A' : Option Addr) (c' : Nat) (zs : List Int) (hr : Ns .i64 w w.heap.size A' zs) (_hby : ∀ z ∈ zs, -9223372036854775808 ≤ z ∧ z ≤ 9223372036854775807) (hbig : zs.length ≤ 140737488351232) (_hlc' : zs.length ≤ c') :
    Calls Try.prog 4 #[.slice A l.length c, .slice A' zs.length c'] w fun e w' => e = .returned (.bool true) ∧ Below w.heap.size w w' := by
  obtain ⟨M, hM⟩ : ∃ n, l.length = n := ⟨_, rfl⟩
  obtain ⟨T, hT⟩ : ∃ n, zs.length = n := ⟨_, rfl⟩
  obtain ⟨i0, hi0, hz0, hz1, hz2⟩ := info_parts CutI.info_int
  rw [hM, hT]
  rw [hT] at hbig
  have HZ := Lib.hid (And.intro hp (And.intro hM (And.intro hr hT)))
  have HA := Lib.hid (awake_any w)
  have hd : (decide ((4096 : Int) < (M : Int)) = true) ∨ (decide ((4096 : Int) < (M : Int)) = false ∧ M ≤ 4096) := by
    by_cases h : (4096 : Int) < (M : Int)
    · exact .inl (decide_eq_true h)
    · exact .inr ⟨decide_eq_false h, by omega⟩
  clear hp hM hr hT _hb _hlc _hby _hlc'
  go_enter Try.func4, Try.ntmps4
  go_wp2_with fail
  refine HA.out.mono ?_
  rintro e0 w0 ⟨rfl, b0⟩
  have HB0 := Lib.hid b0
  clear b0
  rcases hd with hd | ⟨hd, hM4⟩
  · have H1 := Lib.hid (awake_any w0)
    go_wp2_with fail
    refine H1.out.mono ?_
    rintro e1 w1 ⟨rfl, b1⟩
    have HE := Lib.hid (HB0.out.trans (b1.mono HB0.out.size))
    clear b1
    go_wp2_with fail
    go_ret
    exact ⟨rfl, HE.out⟩
  have H1 := Lib.hid (new_any w0)
  go_wp2_with fail
  refine H1.out.mono ?_
  rintro e1 w1 ⟨F1, nb, rfl, h1⟩
  have S1 : Hid (∃ s t u m, Sit w nb ((l.take 0).map Prod.fst) s t u (fun _ _ => false) m F1 w1) := Lib.hid ⟨_, _, _, _, h1.out.1, HB0.out.trans (h1.out.2.2.mono HB0.out.size), fun k hk => Nat.le_trans HB0.out.size (h1.out.2.1 k hk)⟩
  clear h1 hd
  go_wp2_with fail
  go_loopw [6] (fun q wr => ∃ (k : Nat) (F : Nat → Prop), k ≤ M ∧ q = .int .i64 k ∧ Hid (∃ s t u m, Sit w nb ((l.take k).map Prod.fst) s t u (fun _ _ => false) m F wr)) (fun q _ => M - (intOf q).toNat)
  case atStart => exact ⟨0, F1, by omega, rfl, S1⟩
  case round =>
    obtain ⟨k, F, hk, rfl, hst⟩ := hrel
    by_cases hlt : k < M
    · have hkl : k < l.length := by have := HZ.out.2.1; omega
      obtain ⟨b, off, hA, _⟩ := HZ.out.1.2 (by omega)
      subst hA
      obtain ⟨a1, a2, b1, b2, xs, Ad, cd, hx, hok, hns, hbl, c0, c1, c2, c3, c4⟩ := pks_at HZ.out.1 hkl
      obtain ⟨s, t, u, m, hS⟩ := hst.out
      obtain ⟨n, hn⟩ : ∃ n, xs.length = n := ⟨_, rfl⟩
      rw [hn] at c4
      have y0 := (hS.2.1.cell (p := ⟨b, off + k * 5, none⟩) hbl).trans c0
      have y1 := (hS.2.1.cell (p := ⟨b, off + k * 5 + 1, none⟩) hbl).trans c1
      have y2 := (hS.2.1.cell (p := ⟨b, off + k * 5 + 2, none⟩) hbl).trans c2
      have y3 := (hS.2.1.cell (p := ⟨b, off + k * 5 + 3, none⟩) hbl).trans c3
      have y4 := (hS.2.1.cell (p := ⟨b, off + k * 5 + 4, none⟩) hbl).trans c4
      have z1 : (0 : Int) ≤ (k : Int) := by omega
      have z2 : (k : Int) < (M : Int) := by omega
      have H2 := Lib.hid (send_more hS.1 (by rw [List.length_map, List.length_take]; omega) a1 a2 b1 b2 xs n hn Ad cd ((hns.below hS.2.1).more hS.2.1.size) hok)
      have HS := Lib.hid (And.intro hS hx)
      have hnext : (l.take (k + 1)).map Prod.fst = (l.take k).map Prod.fst ++ [((a1, a2), (b1, b2), xs)] := by
        rw [List.take_succ_eq_append_getElem hkl, List.map_append]
        have : l[k] = l.getD k pe0 := by simp [List.getD_eq_getElem?_getD, hkl]
        rw [this, hx]
        rfl
      have HX := Lib.hid hnext
      clear hS hx hok hns c0 c1 c2 c3 c4 hn hst hnext
      go_wp2_with fail
      refine H2.out.mono ?_
      rintro e2 w2 ⟨rfl, F2, h2⟩
      have S2 : Hid (∃ s t u m, Sit w nb ((l.take (k + 1)).map Prod.fst) s t u (fun _ _ => false) m F2 w2) := Lib.hid ⟨_, _, _, _, by rw [HX.out]; exact HS.out.1.step h2.out.1 h2.out.2⟩
      clear h2 y0 y1 y2 y3 y4 H2
      go_wp2_with fail
      exact ⟨⟨k + 1, F2, by omega, rfl, S2⟩, by simp only [intOf]; omega⟩
    · have hkn : k = M := by omega
      have S2 : Hid (Lft w nb l (List.range M) F wr) := Lib.hid (by
        obtain ⟨s, t, u, m, hS⟩ := hst.out
        refine ⟨s, t, u, m, ?_⟩
        rw [← HZ.out.2.1, map_range]
        rwa [hkn, ← HZ.out.2.1, List.take_length] at hS)
      clear hst S1 hkn
      go_wp2_with fail
      go_loopw [7, 8] (fun lv q wr => ∃ (k : Nat) (An : Option Addr) (cn : Nat), k ≤ M ∧ q = .int .i64 k ∧ lv = .slice An k cn ∧ Hid (Lft w nb l (List.range M) F wr ∧ Row w F An cn k (List.range k) wr)) (fun _ q _ => M - (intOf q).toNat)
      case atStart => exact ⟨0, none, 0, by omega, rfl, rfl, Lib.hid ⟨S2.out, rfl, World.ownsRow_nil _ _ _ _, fun g hg => by cases hg⟩⟩
      case round =>
        obtain ⟨k2, An, cn, hk2, rfl, rfl, hst⟩ := hrel
        by_cases hlt2 : k2 < M
        · have z1 : (k2 : Int) < (M : Int) := by omega
          go_wp2_with (at_builtin; refine wpList_append_one _ rfl (.tmp 44) (.tmp 46) 47 rfl 0 3 i0 _ 8 Try.underlying47 hi0 hz0 hz1 hz2 rfl _ k2 (nums .i64 (ints (List.range k2))) rfl hst.out.2.2.1 (.int .i64 k2) 1 rfl rfl (by omega) (by omega) (Nat.zero_le _) ?_; intro v2 w2 o2 g2 at2; obtain ⟨A2, c2, rfl⟩ := own_form o2)
          have HN : Hid (Lft w nb l (List.range M) F w2 ∧ Row w F A2 c2 (k2 + 1) (List.range (k2 + 1)) w2) := Lib.hid (by
            obtain ⟨hL, hR⟩ := hst.out
            obtain ⟨s, t, u, m, hS⟩ := hL
            refine ⟨Lft.grown ⟨s, t, u, m, hS⟩ g2 fun g hg => hR.2.2 g hg, by simp, ?_, fun g hg => ?_⟩
            · have e1 : nums .i64 (ints (List.range (k2 + 1))) = nums .i64 (ints (List.range k2)) ++ [.int .i64 k2] := by
                rw [List.range_succ]
                simp [ints, nums]
              rw [e1]
              exact o2
            · rcases at2 with q | ⟨g', q1, q2⟩
              · exact hR.2.2 g (q ▸ hg)
              · rw [q1] at hg
                injection hg with hg
                subst hg
                exact ⟨Nat.le_trans hS.2.1.size q2, fun hf => by have := hS.1.lt _ hf; omega⟩)
          clear o2 g2 at2 hst
          go_wp2_with fail
          go_roundw
          case rel => exact ⟨k2 + 1, A2, c2, by omega, rfl, rfl, HN⟩
          case measure => simp only [intOf]; omega
        · have hkn2 : k2 = M := by omega
          have S3 : Hid (Lft w nb l (List.range M) F wr ∧ Row w F An cn k2 (List.range M) wr ∧ ∀ a ∈ List.range M, a < M) := Lib.hid (by
            have h := hst.out
            rw [show List.range k2 = List.range M by rw [hkn2]] at h
            exact ⟨h.1, h.2, fun a ha => List.mem_range.1 ha⟩)
          clear hst S2 hkn2
          go_wp2_with fail
          go_loopw [7, 9] (fun lv q wr => ∃ (k3 n : Nat) (lf : List Nat) (An : Option Addr) (cn : Nat) (F : Nat → Prop), k3 ≤ T ∧ n ≤ M ∧ q = .int .i64 k3 ∧ lv = .slice An n cn ∧ Hid (Lft w nb l lf F wr ∧ Row w F An cn n lf wr ∧ ∀ a ∈ lf, a < M)) (fun _ q _ => T - (intOf q).toNat)
          case atStart => exact ⟨0, k2, List.range M, An, cn, F, by omega, by omega, rfl, rfl, S3⟩
          case round =>
            clear S3
            obtain ⟨k3, n, lf, An, cn, F, hk3, hnM, rfl, rfl, hst⟩ := hrel
            by_cases hlt3 : k3 < T
            · obtain ⟨s, t, u, m, hS⟩ := hst.out.1
              obtain ⟨tb, to_, hA', htb, htc⟩ := HZ.out.2.2.1 (by have := HZ.out.2.2.2; omega)
              subst hA'
              obtain ⟨z, hz⟩ : ∃ z, zs.getD k3 0 = z := ⟨_, rfl⟩
              have hcell : ∀ V, Below w.heap.size w V → V.cell? ⟨tb, to_ + k3, none⟩ = some (.int .i64 z) := fun V hV => by
                rw [← hz]
                exact (hV.cell (p := ⟨tb, to_ + k3, none⟩) htb).trans (htc k3 (by have := HZ.out.2.2.2; omega))
              have HC := Lib.hid hcell
              have x0 := hcell wr hS.2.1
              have z1 : (0 : Int) ≤ (k3 : Int) := by omega
              have z2 : (k3 : Int) < (T : Int) := by omega
              have hPl : (lf.map (pkA l)).length = n := by rw [List.length_map]; exact hst.out.2.1.1
              clear hcell htc hz
              by_cases hin : 0 ≤ z ∧ z < (n : Int)
              · obtain ⟨j, rfl⟩ : ∃ j : Nat, (j : Int) = z := ⟨z.toNat, by omega⟩
                have hjn : j < n := by omega
                have hjl : j < lf.length := by have := hst.out.2.1.1; omega
                obtain ⟨a, ha⟩ : ∃ a, lf[j]? = some a := ⟨_, List.getElem?_eq_getElem hjl⟩
                have haM : a < M := hst.out.2.2 a (List.mem_of_getElem? ha)
                obtain ⟨pb, po, hA, _⟩ := HZ.out.1.2 (by have := HZ.out.2.1; omega)
                subst hA
                obtain ⟨a1, a2, b1, b2, xs, Ad, cd, hx, hok, hns, hpbl, c0, c1, c2, c3, c4⟩ := pks_at HZ.out.1 (j := a) (by have := HZ.out.2.1; omega)
                obtain ⟨k, hk⟩ : ∃ n, xs.length = n := ⟨_, rfl⟩
                rw [hk] at c4
                have hpk : (lf.map (pkA l))[j]? = some ((a1, a2), (b1, b2), xs) := by
                  rw [List.getElem?_map, ha]
                  simp only [Option.map_some, pkA]
                  rw [hx]
                have H5 := Lib.hid (take_in hS.1 (i := j) hpk)
                obtain ⟨lg, lcap, hv, _, hlg⟩ := hst.out.2.1.2.1.form (by omega)
                injection hv with hAn _ hcn
                subst hAn
                subst hcn
                have hcl := hst.out.2.1.2.1.cellAt (j : Nat) (by omega)
                have hla : (nums .i64 (ints lf))[j]? = some (.int .i64 a) := by
                  unfold nums ints
                  rw [List.getElem?_map, List.getElem?_map, ha]
                  rfl
                have hncn : n ≤ cn := by
                  rcases hst.out.2.1.2.1.2 with ⟨h0, h1⟩ | ⟨_, _, _, h0, _, _, h1, _⟩
                  · cases h0
                  · injection h0 with _ _ h0
                    subst h0
                    exact h1
                have HJ := Lib.hid (And.intro hS (And.intro hst.out.2.1 (And.intro hst.out.2.2 (And.intro ha (And.intro hx (And.intro hns (And.intro hk (And.intro hjl (And.intro hla (And.intro hncn (And.intro hpbl (And.intro c0 (And.intro c1 (And.intro c2 (And.intro c3 c4)))))))))))))))
                clear hS hst hx hok hns c0 c1 c2 c3 c4 hpk hPl hin hcl hla ha hlg hjl hncn hpbl
                go_wp2_with fail
                refine H5.out.mono ?_
                rintro e5 w5 (⟨hc, _⟩ | ⟨_, A5, c5, rfl, F5, hN5, hS5, hD5, _, _⟩)
                · cases hc
                rw [HJ.out.2.2.2.2.2.2.1] at hD5 ⊢
                have hSit5 := HJ.out.1.step hN5 hS5
                have hR5 := HJ.out.2.1.step hS5
                obtain ⟨U5, hU5⟩ : ∃ U, w5.alloc (.cells #[.int .i64 a1, .int .i64 a2, .int .i64 b1, .int .i64 b2, .slice A5 k c5] 36) = U := ⟨_, rfl⟩
                have hb5 : Below w5.heap.size w5 U5 := by rw [← hU5]; exact (Below.refl _ w5).alloc (Nat.le_refl _) _
                have hP5 : Bn w5.heap.size 36 [.int .i64 a1, .int .i64 a2, .int .i64 b1, .int .i64 b2, .slice A5 k c5] U5 := by rw [← hU5]; exact heap_alloc_new w5 _
                have hSU := hSit5.below hb5
                have hRU := hR5.below hb5
                have hDU := own_below hD5 hb5 (Nat.le_refl _)
                have x1 := HC.out U5 hSU.2.1
                obtain ⟨pv, hpv⟩ : ∃ b, w5.heap.size = b := ⟨_, rfl⟩
                rw [hpv] at hP5
                have HSS : Hid (∀ V, Below U5.heap.size U5 V → V.cell? ⟨pv, 0, none⟩ = some (.int .i64 a1) ∧ V.cell? ⟨pv, 1, none⟩ = some (.int .i64 a2) ∧ V.cell? ⟨pv, 2, none⟩ = some (.int .i64 b1) ∧ V.cell? ⟨pv, 3, none⟩ = some (.int .i64 b2) ∧ V.cell? ⟨pv, 4, none⟩ = some (.slice A5 k c5) ∧ V.cell? ⟨tb, to_ + k3, none⟩ = some (.int .i64 j) ∧ V.cell? ⟨lg, j, none⟩ = some (.int .i64 a) ∧
                    V.cell? ⟨pb, po + a * 5, none⟩ = some (.int .i64 a1) ∧ V.cell? ⟨pb, po + a * 5 + 1, none⟩ = some (.int .i64 a2) ∧ V.cell? ⟨pb, po + a * 5 + 2, none⟩ = some (.int .i64 b1) ∧ V.cell? ⟨pb, po + a * 5 + 3, none⟩ = some (.int .i64 b2) ∧ V.cell? ⟨pb, po + a * 5 + 4, none⟩ = some (.slice Ad k cd)) := Lib.hid fun V hV => by
                  have hP := hP5.same (hV.block _ hP5.lt)
                  have hw := hSU.2.1.trans (hV.mono hSU.2.1.size)
                  obtain ⟨_, _, _, _, _, _, _, _, h9, _, h11, h12, h13, h14, h15, h16⟩ := HJ.out
                  refine ⟨(hP.cell 0).trans rfl, (hP.cell 1).trans rfl, (hP.cell 2).trans rfl, (hP.cell 3).trans rfl, (hP.cell 4).trans rfl, HC.out V hw, ?_, (hw.cell (p := ⟨pb, po + a * 5, none⟩) h11).trans h12, (hw.cell (p := ⟨pb, po + a * 5 + 1, none⟩) h11).trans h13, (hw.cell (p := ⟨pb, po + a * 5 + 2, none⟩) h11).trans h14, (hw.cell (p := ⟨pb, po + a * 5 + 3, none⟩) h11).trans h15, (hw.cell (p := ⟨pb, po + a * 5 + 4, none⟩) h11).trans h16⟩
                  exact ((hRU.below hV).2.1.cellAt j (by omega)).trans h9
                have HSM : Hid (∀ V, Below U5.heap.size U5 V → Calls Try.prog 17 #[.agg #[.int .i64 a1, .int .i64 a2, .int .i64 b1, .int .i64 b2, .slice A5 k c5], .agg #[.int .i64 a1, .int .i64 a2, .int .i64 b1, .int .i64 b2, .slice Ad k cd]] V (fun e w' => e = .returned (.bool true) ∧ Below V.heap.size V w')) := Lib.hid fun V hV => by
                  have hw := hSU.2.1.trans (hV.mono hSU.2.1.size)
                  exact same_yes V a1 a2 b1 b2 xs k HJ.out.2.2.2.2.2.2.1 A5 Ad c5 cd (own_ns (c := c5) (n := k) (by rw [HJ.out.2.2.2.2.2.2.1]; exact own_below hDU hV (Nat.le_refl _))) ((HJ.out.2.2.2.2.2.1.below hw).more hw.size)
                have HU := Lib.hid (And.intro hSU hRU)
                have y1 : (0 : Int) ≤ (j : Int) := by omega
                have y2 : (j : Int) < (n : Int) := by omega
                have y3 : (0 : Int) ≤ (a : Int) := by omega
                have y4 : (a : Int) < (M : Int) := by omega
                have d1 : decide (0 ≤ (j : Int)) = true := decide_eq_true y1
                have d2 : decide ((j : Int) < (n : Int)) = true := decide_eq_true y2
                clear hN5 hS5 hD5 hSit5 hR5 hb5 hP5 hSU hRU hDU H5
                go_wp2_with fail
                go_region_held3 (fun V => V.cell? ⟨pv, 0, none⟩ = some (.int .i64 a1) ∧ V.cell? ⟨pv, 1, none⟩ = some (.int .i64 a2) ∧ V.cell? ⟨pv, 2, none⟩ = some (.int .i64 b1) ∧ V.cell? ⟨pv, 3, none⟩ = some (.int .i64 b2) ∧ V.cell? ⟨pv, 4, none⟩ = some (.slice A5 k c5) ∧ V.cell? ⟨tb, to_ + k3, none⟩ = some (.int .i64 j) ∧ V.cell? ⟨lg, j, none⟩ = some (.int .i64 a) ∧
                    V.cell? ⟨pb, po + a * 5, none⟩ = some (.int .i64 a1) ∧ V.cell? ⟨pb, po + a * 5 + 1, none⟩ = some (.int .i64 a2) ∧ V.cell? ⟨pb, po + a * 5 + 2, none⟩ = some (.int .i64 b1) ∧ V.cell? ⟨pb, po + a * 5 + 3, none⟩ = some (.int .i64 b2) ∧ V.cell? ⟨pb, po + a * 5 + 4, none⟩ = some (.slice Ad k cd))
                  (first | exact HSS.out _ (Below.refl _ _).drew | exact HSS.out _ hb6)
                  (first | (go_at_call 17; refine (HSM.out _ (Below.refl _ _).drew).mono ?_; rintro e6 w6 ⟨rfl, b6⟩; have hb6 : Below U5.heap.size U5 w6 := (show Below U5.heap.size U5 U5.drew from (Below.refl _ U5).drew).trans b6))
                all_goals
                  obtain ⟨j1, hj1⟩ : ∃ j1, j + 1 = j1 := ⟨_, rfl⟩
                  have hjc : j ≤ cn := by have := HJ.out.2.2.2.2.2.2.2.2.2.1; omega
                  have hj1c : j1 ≤ cn := by have := HJ.out.2.2.2.2.2.2.2.2.2.1; omega
                  have hj1n : j1 ≤ n := by omega
                  have hS6 := HU.out.1.below hb6
                  have hR6 := HU.out.2.below hb6
                  have hns6 := hR6.ns
                  obtain ⟨AA, hAA, hnsA⟩ : ∃ AA : Option Addr, (if cn = j1 then (some ⟨lg, 0, none⟩ : Option Addr) else some ⟨lg, j1, none⟩) = AA ∧ ∀ V, Below w6.heap.size w6 V → Ns .i64 V V.heap.size AA (ints (lf.drop j1)) := by
                    refine ⟨_, rfl, fun V hV => ?_⟩
                    have h1 := CutI.tail_ns (c := cn) (m := j1) (k := n) (by rw [ints_length]; exact hR6.1) hj1n (by have := HJ.out.2.2.2.2.2.2.2.2.2.1; omega) ((hns6.below hV).more hV.size)
                    rw [ints_drop]
                    unfold CutI.tailA at h1
                    by_cases hcj : cn = j1
                    · rw [if_pos hcj]; rwa [if_pos hcj] at h1
                    · rw [if_neg hcj]
                      rw [if_neg hcj, Option.map_some, Addr.add_lit, Nat.zero_add] at h1
                      exact h1
                  have hnsT : Ns .i64 w6 w6.heap.size (some ⟨lg, 0, none⟩) (ints (lf.take j)) := by
                    rw [ints_take]
                    have h1 := hns6.cut 0 j
                    simpa using h1
                  have hlT : (ints (lf.take j)).length = j := by rw [ints_length, List.length_take]; have := hR6.1; omega
                  have hlD : (ints (lf.drop j1)).length = n - j1 := by rw [ints_length, List.length_drop]; have := hR6.1; omega
                  have HT := Lib.hid (And.intro hnsT (And.intro hlT (And.intro hlD hnsA)))
                  have HR6 := Lib.hid (And.intro hS6 (And.intro hR6 hj1))
                  have x2 := HC.out w6 hS6.2.1
                  have HC6 := Lib.hid hS6.2.1
                  have e1 : IntKind.i64.wrap ((j : Int) + 1) = (j1 : Int) := by rw [show (j : Int) + 1 = (j1 : Int) by omega]; exact Go.IntWalk.i64_in _ (by omega)
                  clear hnsT hlT hlD hnsA hS6 hR6 hns6 hj1
                  go_wp2_with (first
                    | (at_builtin; refine wpList_append_ns _ rfl (.tmp 94) (.tmp 100) 47 rfl 0 3 i0 _ 8 Try.underlying47 hi0 hz0 hz1 hz2 rfl _ 0 [] rfl (World.ownsRow_nil _ _ _ _) .i64 w6.heap.size (some ⟨lg, 0, none⟩) j cn (ints (lf.take j)) HT.out.2.1 rfl HT.out.1 (by omega) (by omega) (Nat.zero_le _) ?_; intro v7 w7 o7 g7 at7; rw [Nat.zero_add, List.nil_append] at o7; obtain ⟨A7, c7, rfl⟩ := own_form o7; have b7 : Below w6.heap.size w6 w7 := (Below.refl _ w6).grown g7 (Nat.le_refl _) (fun j hj => by cases hj); have x3 := HC.out w7 (HC6.out.trans (b7.mono HC6.out.size)))
                    | (at_builtin; refine wpList_append_ns _ rfl (.tmp 102) (.tmp 109) 47 rfl 0 3 i0 _ 8 Try.underlying47 hi0 hz0 hz1 hz2 rfl _ j (nums .i64 (ints (lf.take j))) rfl o7 .i64 w7.heap.size AA (n - j1) (cn - j1) (ints (lf.drop j1)) HT.out.2.2.1 rfl (HT.out.2.2.2 w7 b7) (by omega) (by omega) (Nat.zero_le _) ?_; intro v8 w8 o8 g8 at8; obtain ⟨A8, c8, rfl⟩ := own_form o8))
                  have HN : Hid (Lft w nb l (lf.eraseIdx j) F5 w8 ∧ Row w F5 A8 c8 (j + (n - j1)) (lf.eraseIdx j) w8 ∧ ∀ a ∈ lf.eraseIdx j, a < M) := Lib.hid (by
                    have hS7 := HR6.out.1.below b7
                    have hs6 := HC6.out.size
                    have hlt6 : ∀ q, F5 q → q < w6.heap.size := HR6.out.1.1.lt
                    have hblk : ∀ g, (Value.slice A7 j c7).ownBlock = some g → w.heap.size ≤ g ∧ ¬ F5 g := fun g hg => by
                      rcases at7 with q | q
                      · rw [q] at hg; cases hg
                      · rw [q] at hg
                        injection hg with hg
                        subst hg
                        exact ⟨hs6, fun hf => by have := hlt6 _ hf; omega⟩
                    rw [← map_erase] at hS7
                    refine ⟨Lft.grown ⟨_, _, _, _, hS7⟩ g8 hblk, ⟨?_, ?_, fun g hg => ?_⟩, fun a ha => HJ.out.2.2.1 a (List.mem_of_mem_eraseIdx ha)⟩
                    · rw [List.length_eraseIdx_of_lt HJ.out.2.2.2.2.2.2.2.1]
                      have := HJ.out.2.1.1
                      have := HR6.out.2.2
                      omega
                    · have e2 : nums .i64 (ints (lf.eraseIdx j)) = nums .i64 (ints (lf.take j)) ++ nums .i64 (ints (lf.drop j1)) := by
                        rw [List.eraseIdx_eq_take_drop_succ, HR6.out.2.2]
                        simp [ints, nums]
                      rw [e2]
                      exact o8
                    · rcases at8 with q | q
                      · exact hblk g (q ▸ hg)
                      · rw [q] at hg
                        injection hg with hg
                        subst hg
                        have := b7.size
                        exact ⟨by omega, fun hf => by have := hlt6 _ hf; omega⟩)
                  clear o7 g7 at7 b7 o8 g8 at8 x2 x3 e1 x0 x1
                  go_wp2_with fail
                  go_roundw
                  case rel => exact ⟨k3 + 1, j + (n - j1), lf.eraseIdx j, A8, c8, F5, by omega, by have := HR6.out.2.2; omega, rfl, rfl, HN⟩
                  case measure => simp only [intOf]; omega
              · have H5 : Hid (Calls Try.prog 19 #[hd nb, .int .i64 z] wr (fun e w' => e = .returned (.tuple #[.agg #[.int .i64 0, .int .i64 0, .int .i64 0, .int .i64 0, .slice none 0 0], .bool false]) ∧ Below wr.heap.size wr w')) := Lib.hid (take_out hS.1 z (by rw [hPl]; exact hin))
                have hds : (decide (0 ≤ z) = true ∧ decide (z < (n : Int)) = false) ∨ decide (0 ≤ z) = false := by
                  by_cases h1 : 0 ≤ z
                  · exact .inl ⟨decide_eq_true h1, decide_eq_false fun h => hin ⟨h1, h⟩⟩
                  · exact .inr (decide_eq_false h1)
                have HD := Lib.hid hds
                have HS := Lib.hid (And.intro hS hst.out.2)
                clear hS hst hin hPl hds
                go_wp2_with fail
                refine H5.out.mono ?_
                rintro e5 w5 ⟨rfl, b5⟩
                have hb5 : Below wr.heap.size wr (w5.alloc (.cells #[.int .i64 0, .int .i64 0, .int .i64 0, .int .i64 0, .slice none 0 0] 36)) := b5.alloc b5.size _
                have hS5 := HS.out.1.below hb5
                have x1 := HC.out (w5.alloc (.cells #[.int .i64 0, .int .i64 0, .int .i64 0, .int .i64 0, .slice none 0 0] 36)) hS5.2.1
                have HN : Hid (Lft w nb l lf F (w5.alloc (.cells #[.int .i64 0, .int .i64 0, .int .i64 0, .int .i64 0, .slice none 0 0] 36)) ∧ Row w F An cn n lf (w5.alloc (.cells #[.int .i64 0, .int .i64 0, .int .i64 0, .int .i64 0, .slice none 0 0] 36)) ∧ ∀ a ∈ lf, a < M) := Lib.hid ⟨⟨_, _, _, _, hS5⟩, HS.out.2.1.below hb5, HS.out.2.2⟩
                clear b5 hb5 hS5 H5 x0
                rcases HD.out with ⟨d1, d2⟩ | d1
                all_goals
                  go_wp2_with fail
                  go_roundw
                  case rel => exact ⟨k3 + 1, n, lf, An, cn, F, by omega, hnM, rfl, rfl, HN⟩
                  case measure => simp only [intOf]; omega
            · have S4 : Hid (Lft w nb l (lf.drop 0) F wr ∧ Row w F An cn n lf wr ∧ ∀ a ∈ lf, a < M) := hst
              clear hst
              go_wp2_with fail
              go_loopw [13] (fun q wr => ∃ (k4 : Nat) (F : Nat → Prop), k4 ≤ n ∧ q = .int .i64 k4 ∧ Hid (Lft w nb l (lf.drop k4) F wr ∧ Row w F An cn n lf wr ∧ ∀ a ∈ lf, a < M)) (fun q _ => n - (intOf q).toNat)
              case atStart => exact ⟨0, F, by omega, rfl, S4⟩
              case round =>
                clear S4
                obtain ⟨k4, F, hk4, rfl, hst⟩ := hrel
                obtain ⟨s, t, u, m, hS⟩ := hst.out.1
                by_cases hlt4 : k4 < n
                · have hjl : k4 < lf.length := by have := hst.out.2.1.1; omega
                  obtain ⟨a, ha⟩ : ∃ a, lf[k4]? = some a := ⟨_, List.getElem?_eq_getElem hjl⟩
                  have haM : a < M := hst.out.2.2 a (List.mem_of_getElem? ha)
                  obtain ⟨pb, po, hA, _⟩ := HZ.out.1.2 (by have := HZ.out.2.1; omega)
                  subst hA
                  obtain ⟨a1, a2, b1, b2, xs, Ad, cd, hx, hok, hns, hpbl, c0, c1, c2, c3, c4⟩ := pks_at HZ.out.1 (j := a) (by have := HZ.out.2.1; omega)
                  obtain ⟨k5, hk⟩ : ∃ n, xs.length = n := ⟨_, rfl⟩
                  rw [hk] at c4
                  have hpk : ((lf.drop k4).map (pkA l))[0]? = some ((a1, a2), (b1, b2), xs) := by
                    rw [List.getElem?_map, List.getElem?_drop, Nat.add_zero, ha]
                    simp only [Option.map_some, pkA]
                    rw [hx]
                  have H5 := Lib.hid (take_in hS.1 (i := 0) hpk)
                  obtain ⟨lg, lcap, hv, _, hlg⟩ := hst.out.2.1.2.1.form (by omega)
                  injection hv with hAn _ hcn
                  subst hAn
                  subst hcn
                  have hla : (nums .i64 (ints lf))[k4]? = some (.int .i64 a) := by
                    unfold nums ints
                    rw [List.getElem?_map, List.getElem?_map, ha]
                    rfl
                  have HJ := Lib.hid (And.intro hS (And.intro hst.out.2.1 (And.intro hst.out.2.2 (And.intro hns (And.intro hk (And.intro hla (And.intro hpbl (And.intro c0 (And.intro c1 (And.intro c2 (And.intro c3 c4)))))))))))
                  clear hS hst hx hok hns c0 c1 c2 c3 c4 hpk hla ha hlg hjl hpbl
                  go_wp2_with fail
                  refine H5.out.mono ?_
                  rintro e5 w5 (⟨hc, _⟩ | ⟨_, A5, c5, rfl, F5, hN5, hS5, hD5, _, _⟩)
                  · cases hc
                  rw [HJ.out.2.2.2.2.1] at hD5 ⊢
                  have hSit5 := HJ.out.1.step hN5 hS5
                  have hR5 := HJ.out.2.1.step hS5
                  obtain ⟨U5, hU5⟩ : ∃ U, w5.alloc (.cells #[.int .i64 a1, .int .i64 a2, .int .i64 b1, .int .i64 b2, .slice A5 k5 c5] 36) = U := ⟨_, rfl⟩
                  have hb5 : Below w5.heap.size w5 U5 := by rw [← hU5]; exact (Below.refl _ w5).alloc (Nat.le_refl _) _
                  have hP5 : Bn w5.heap.size 36 [.int .i64 a1, .int .i64 a2, .int .i64 b1, .int .i64 b2, .slice A5 k5 c5] U5 := by rw [← hU5]; exact heap_alloc_new w5 _
                  have hSU := hSit5.below hb5
                  have hRU := hR5.below hb5
                  have hDU := own_below hD5 hb5 (Nat.le_refl _)
                  obtain ⟨pv, hpv⟩ : ∃ b, w5.heap.size = b := ⟨_, rfl⟩
                  rw [hpv] at hP5
                  have HSS : Hid (∀ V, Below U5.heap.size U5 V → V.cell? ⟨pv, 0, none⟩ = some (.int .i64 a1) ∧ V.cell? ⟨pv, 1, none⟩ = some (.int .i64 a2) ∧ V.cell? ⟨pv, 2, none⟩ = some (.int .i64 b1) ∧ V.cell? ⟨pv, 3, none⟩ = some (.int .i64 b2) ∧ V.cell? ⟨pv, 4, none⟩ = some (.slice A5 k5 c5) ∧ V.cell? ⟨lg, k4, none⟩ = some (.int .i64 a) ∧
                      V.cell? ⟨pb, po + a * 5, none⟩ = some (.int .i64 a1) ∧ V.cell? ⟨pb, po + a * 5 + 1, none⟩ = some (.int .i64 a2) ∧ V.cell? ⟨pb, po + a * 5 + 2, none⟩ = some (.int .i64 b1) ∧ V.cell? ⟨pb, po + a * 5 + 3, none⟩ = some (.int .i64 b2) ∧ V.cell? ⟨pb, po + a * 5 + 4, none⟩ = some (.slice Ad k5 cd)) := Lib.hid fun V hV => by
                    have hP := hP5.same (hV.block _ hP5.lt)
                    have hw := hSU.2.1.trans (hV.mono hSU.2.1.size)
                    obtain ⟨_, _, _, _, _, h9, h11, h12, h13, h14, h15, h16⟩ := HJ.out
                    refine ⟨(hP.cell 0).trans rfl, (hP.cell 1).trans rfl, (hP.cell 2).trans rfl, (hP.cell 3).trans rfl, (hP.cell 4).trans rfl, ?_, (hw.cell (p := ⟨pb, po + a * 5, none⟩) h11).trans h12, (hw.cell (p := ⟨pb, po + a * 5 + 1, none⟩) h11).trans h13, (hw.cell (p := ⟨pb, po + a * 5 + 2, none⟩) h11).trans h14, (hw.cell (p := ⟨pb, po + a * 5 + 3, none⟩) h11).trans h15, (hw.cell (p := ⟨pb, po + a * 5 + 4, none⟩) h11).trans h16⟩
                    exact ((hRU.below hV).2.1.cellAt k4 (by omega)).trans h9
                  have HSM : Hid (∀ V, Below U5.heap.size U5 V → Calls Try.prog 17 #[.agg #[.int .i64 a1, .int .i64 a2, .int .i64 b1, .int .i64 b2, .slice A5 k5 c5], .agg #[.int .i64 a1, .int .i64 a2, .int .i64 b1, .int .i64 b2, .slice Ad k5 cd]] V (fun e w' => e = .returned (.bool true) ∧ Below V.heap.size V w')) := Lib.hid fun V hV => by
                    have hw := hSU.2.1.trans (hV.mono hSU.2.1.size)
                    exact same_yes V a1 a2 b1 b2 xs k5 HJ.out.2.2.2.2.1 A5 Ad c5 cd (own_ns (c := c5) (n := k5) (by rw [HJ.out.2.2.2.2.1]; exact own_below hDU hV (Nat.le_refl _))) ((HJ.out.2.2.2.1.below hw).more hw.size)
                  have hdr : ((lf.drop k4).map (pkA l)).eraseIdx 0 = (lf.drop (k4 + 1)).map (pkA l) := by
                    rw [← map_erase, List.eraseIdx_zero, List.tail_drop]
                  rw [hdr] at hSU
                  have HU := Lib.hid (And.intro hSU hRU)
                  have y1 : (0 : Int) ≤ (k4 : Int) := by omega
                  have y2 : (k4 : Int) < (n : Int) := by omega
                  have y3 : (0 : Int) ≤ (a : Int) := by omega
                  have y4 : (a : Int) < (M : Int) := by omega
                  clear hN5 hS5 hD5 hSit5 hR5 hb5 hP5 hSU hRU hDU H5 hdr
                  go_wp2_with fail
                  go_region_held3 (fun V => V.cell? ⟨pv, 0, none⟩ = some (.int .i64 a1) ∧ V.cell? ⟨pv, 1, none⟩ = some (.int .i64 a2) ∧ V.cell? ⟨pv, 2, none⟩ = some (.int .i64 b1) ∧ V.cell? ⟨pv, 3, none⟩ = some (.int .i64 b2) ∧ V.cell? ⟨pv, 4, none⟩ = some (.slice A5 k5 c5) ∧ V.cell? ⟨lg, k4, none⟩ = some (.int .i64 a) ∧
                      V.cell? ⟨pb, po + a * 5, none⟩ = some (.int .i64 a1) ∧ V.cell? ⟨pb, po + a * 5 + 1, none⟩ = some (.int .i64 a2) ∧ V.cell? ⟨pb, po + a * 5 + 2, none⟩ = some (.int .i64 b1) ∧ V.cell? ⟨pb, po + a * 5 + 3, none⟩ = some (.int .i64 b2) ∧ V.cell? ⟨pb, po + a * 5 + 4, none⟩ = some (.slice Ad k5 cd))
                    (first | exact HSS.out _ (Below.refl _ _).drew | exact HSS.out _ hb6)
                    (first | (go_at_call 17; refine (HSM.out _ (Below.refl _ _).drew).mono ?_; rintro e6 w6 ⟨rfl, b6⟩; have hb6 : Below U5.heap.size U5 w6 := (show Below U5.heap.size U5 U5.drew from (Below.refl _ U5).drew).trans b6))
                  all_goals
                    have HN : Hid (Lft w nb l (lf.drop (k4 + 1)) F5 w6 ∧ Row w F5 (some ⟨lg, 0, none⟩) cn n lf w6 ∧ ∀ a ∈ lf, a < M) := Lib.hid ⟨⟨_, _, _, _, HU.out.1.below hb6⟩, HU.out.2.below hb6, HJ.out.2.2.1⟩
                    clear b6 hb6
                    go_wp2_with fail
                    first
                    | exact ⟨⟨k4 + 1, F5, by omega, rfl, HN⟩, by simp only [intOf]; omega⟩
                    | (go_roundw
                       case rel => exact ⟨k4 + 1, F5, by omega, rfl, HN⟩
                       case measure => simp only [intOf]; omega)
                · have hl0 : ((lf.drop k4).map (pkA l)).length = 0 := by
                    rw [List.length_map, List.length_drop]
                    have := hst.out.2.1.1
                    omega
                  have H6 := Lib.hid (len_any hS.1 0 hl0)
                  have HE := Lib.hid hS.2.1
                  clear hS hst hl0
                  go_wp2_with fail
                  refine H6.out.mono ?_
                  rintro e6 w6 ⟨rfl, rfl⟩
                  go_wp2_with fail
                  go_ret
                  exact ⟨rfl, HE.out⟩
-- ROW BEGIN
set_option maxRecDepth 100000 in
/-- What the walk gives, shut again. -/
theorem contract (H : Type) (enc : TypeId × Value → H) (W : World) (base : Nat) (args : Array Value) (ds gs : List (DataW H)) (before : List MemPlace)
    (hval : ∀ (j : Nat) t v, Try.f4.params[j]? = some t → args[j]? = some v → Value.okWide Try.prog W .any base t v)
    (hW : DataW.Whole enc Try.prog Try.f4.params.toList Rows.netOrderSpec.vars false W args.toList ds gs before)
    (hsz : (DataW.weightsEach Try.prog (Try.f4.params.toList ++ Rows.netOrderSpec.plain.varTypes Try.prog) (ds ++ gs)).all (· ≤ reachBytes) = true) :
    Calls Try.prog 4 args W fun e W' => ∃ v, e = .returned v ∧ Rows.netOrderSpec.post enc Try.prog Try.f4 false true false false W args v W' := by
  have hW' := hW
  obtain ⟨p, q, hA0, hV, hbef, _, _⟩ := hW
  have hA : DataW.TrodAll enc Try.prog W 0 (fun _ => true) true Try.f4.params.toList args.toList ds p := hA0
  have hA1 := hA
  rw [Try.params4] at hA hval hsz
  obtain ⟨v0, vs0, d0, ds0, p0, q0, hargs, rfl, rfl, h0, r0⟩ := trodAll_cons hA
  obtain ⟨v1, vs1, d1, ds1, p1, q1, rfl, rfl, rfl, h1, r1⟩ := trodAll_cons r0
  obtain ⟨rfl, rfl, rfl⟩ := trodAll_nil r1
  obtain rfl : args = #[v0, v1] := by cases args; simp_all
  obtain ⟨rfl, rfl⟩ := trodVars_none hV
  clear hA hargs
  obtain ⟨A0, c0, a0, rfl, n0, l0, b0⟩ := Net.arg_pkts (hval 0 27 v0 rfl rfl) h0 (Wgt.wt_arg hsz (j := 0) rfl rfl)
  obtain ⟨A1, c1, a1, rfl, n1, w1, l1, _, o1⟩ := open_ns Try.underlying47 Try.underlying3 Facts.cells3 (hval 1 47 v1 rfl rfl) h1
  have b1 := reach_ns hsz (j := 1) rfl rfl Try.underlying47 Facts.bytes3 l1 o1
  refine (walk W A0 c0 a0 n0 b0 l0 A1 c1 a1 n1 (fun z hz => wf_int (w1 z hz)) (by omega) l1).mono fun e W' ⟨he, hb⟩ => ?_
  subst he
  exact ⟨_, rfl, law_post Facts.laid (by rfl) Try.underlying4 (by rw [Try.params4]; decide +kernel) hW' hA1 rfl hbef rfl rfl rfl hb⟩

set_option maxRecDepth 100000 in
theorem lifted (os : Os) (started : os.Started) (H : Type) (enc : TypeId × Value → H) :
    ReturnsInHanded {} Try.checked os 4 .any (Rows.netOrderSpec.pre6 enc Try.prog Try.f4 Rows.netOrderRow.domain false) (Rows.netOrderSpec.post enc Try.prog Try.f4 false true false false) := by
  refine returnsInHanded_of_change_sized (C := Try.checked) Facts.own started (by kernel_rfl) Try.func4
    (ChangeSpec.witness6 (enc := enc) (C := Try.checked) false ⟨#[], #[.slice none 0 0, .slice none 0 0], []⟩ 8 (by kernel_rfl) (by kernel_rfl) (by kernel_rfl) (by kernel_rfl)) ?_
  intro W base args ds gs before hval hW _ hsz _
  exact contract H enc W base args ds gs before hval hW hsz

theorem holds : Rows.NetOrderSaid :=
  OpenClaim.holds_of_wide 4 Try.f4 rfl rfl rfl rfl rfl rfl rfl ⟨rfl, rfl, rfl, rfl, rfl⟩ rfl rfl rfl rfl rfl (by kernel_rfl) Try.func4 (by kernel_rfl)
    (of_decide_eq_true (by kernel_rfl)) (by unfold Func.isWrapper; first | (rw [if_pos (by decide +kernel)]; kernel_rfl) | (rw [if_neg (by decide +kernel)]; exact ⟨rfl, rfl⟩))
    (fun os started H enc _ => lifted os started H enc)
-- ROW END
end NetOrder
end Go.Proofs.Ytinbaiblbbfnnaa
