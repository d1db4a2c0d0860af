/-
  TreeNews (P11.1): a tree that is made of a list is the one into which they are laid one by one; one that isn't right makes none. For every input.
-/
import Derived.Test.YtbaclinjimfncaaGreatTreePair
import Derived.Test.YtbaclinjimfncaaGreatTreeArgs
namespace Go.Proofs.YtbaclinjimfncaaGreat
namespace TreeNews
open Go.ChangeShapes Go.WideShapes Go.ChangeAt Go.RowKit Vers Num Ring Disk Blk Tree
open Go.Proofs.YtbaclinjimfncaaGreat.Code hiding Bn
attribute [local go_sem ↓] Go.wp_at_zero Go.wp_at_succ
theorem layG_all {l : List Rc} (h : ∀ r ∈ l, okR r) : layG l = layF l := by
  unfold layG
  rw [List.filter_eq_self.2 fun r hr => by simp [h r hr]]
/-- An elder tree: all of it lies below block B. -/
def Eld (w : World) (B tb : Nat) (L : List Rc) (W : World) : Prop := ∃ F, On F w W tb L ∧ ∀ k, F k → k < B
theorem getD_mem {l : List Rc} {k : Nat} (hk : k < l.length) : l.getD k r0 ∈ l := by
  rw [List.getD_eq_getElem?_getD, List.getElem?_eq_getElem hk]
  exact List.getElem_mem _
theorem eld_hash {w W : World} {B tb tb2 : Nat} {L L2 : List Rc} {v : Value} (h : Eld w B tb L W) (h2 : Tw w B tb2 L2 v W) (hN : L.length ≤ 3518437208882) :
    Calls Tryz.prog 11 #[.pointer (some ⟨tb, 0, none⟩), .slice none 0 0] W (fun e w' => e = .returned (.int .u64 (hashF L [])) ∧ Hid (Eld w B tb L w' ∧ Tw w B tb2 L2 v w')) := by
  obtain ⟨F, ho, hF⟩ := h
  refine (ho.hash hN none 0 0 [] rfl (by omega) ns_nil).mono ?_
  rintro e w' ⟨rfl, hx⟩
  refine ⟨rfl, Lib.hid ⟨⟨F, hx.out.1, hF⟩, ?_⟩⟩
  obtain ⟨q1, F2, ps, hp⟩ := h2
  have htb := hF _ ho.own
  exact ⟨q1, F2, ps, hp.chg hx.out.2 (fun k hk e => by have := hp.2.2.2.2 k hk; omega) (fun g hg e => by have := (hp.2.2.1.lt g hg).1; omega) (fun k e => by rw [e]; exact ho.2.2 _ ho.own)⟩
theorem new_hash {w W : World} {B tb tb2 : Nat} {L L2 : List Rc} {v : Value} (h : Eld w B tb L W) (h2 : Tw w B tb2 L2 v W) (hN : L2.length ≤ 3518437208882) :
    Calls Tryz.prog 11 #[.pointer (some ⟨tb2, 0, none⟩), .slice none 0 0] W (fun e w' => e = .returned (.int .u64 (hashF L2 [])) ∧ Hid (Eld w B tb L w' ∧ Tw w B tb2 L2 v w')) := by
  obtain ⟨F, ho, hF⟩ := h
  obtain ⟨q1, F2, ps, hp⟩ := h2
  refine (hp.1.hash hN none 0 0 [] rfl (by omega) ns_nil).mono ?_
  rintro e w' ⟨rfl, hx⟩
  have htb := hp.2.2.2.2 _ hp.1.own
  exact ⟨rfl, Lib.hid ⟨⟨F, ho.chg hx.out.2 (fun k hk e => by have := hF k hk; omega) (fun k e => by rw [e]; exact hp.1.2.2 _ hp.1.own), hF⟩, q1, F2, ps, hp.own hx.out.1 hx.out.2⟩⟩
theorem eld_recs {w W : World} {B tb tb2 : Nat} {L L2 : List Rc} {v : Value} (h : Eld w B tb L W) (h2 : Tw w B tb2 L2 v W) (hN : L.length ≤ 3518437208882) :
    Calls Tryz.prog 17 #[.pointer (some ⟨tb, 0, none⟩), .slice none 0 0] W (fun e w' => ∃ A n c, e = .returned (.slice A n c) ∧ Hid (L.length = n ∧ Rs w' 0 w'.heap.size A L ∧ Tw w B tb2 L2 v w')) := by
  obtain ⟨F, ho, hF⟩ := h
  refine (ho.recs hN none 0 0 [] rfl (by omega) ns_nil).mono ?_
  rintro e w' ⟨A, n, c, ps, rfl, hx⟩
  obtain ⟨p1, p2, p3, p4, p5, p6⟩ := hx.out
  have hL : recsF L [] = L := by unfold recsF beneath; rw [if_pos (by decide)]; simp [inP]
  rw [hL] at p1 p2
  refine ⟨A, n, c, rfl, Lib.hid ⟨p2.symm, ?_, h2.below p6⟩⟩
  rw [← p1]
  exact p4.rs.less (Nat.zero_le _)
set_option maxRecDepth 100000 in
set_option maxHeartbeats 8000000 in
theorem walk (w : World) (A : Option Addr) (c : Nat) (l : List Rc) (hl : Rs w 0 w.heap.size A l) (hb : l.length * 40 ≤ 140737488351232) (_hlc : l.length ≤ c) :
    Calls Tryz.prog 4 #[.slice A l.length c] w fun e w' => e = .returned (.bool true) ∧ Below w.heap.size w w' := by
  obtain ⟨n, hn⟩ : ∃ n, l.length = n := ⟨_, rfl⟩
  rw [hn] at hb ⊢
  have HZ := Lib.hid (And.intro hl hn)
  have H0 := Lib.hid (awake_any w)
  by_cases hall : ∀ r ∈ l, okR r
  · have HA := Lib.hid hall
    clear hl hn hall
    go_enter Tryz.func4, Tryz.ntmps4
    go_wp2_with fail
    refine H0.out.mono ?_
    rintro e1 w1 ⟨rfl, b1⟩
    have H1 := Lib.hid (on_new b1 A c n l HZ.out.2 (by omega) ((HZ.out.1.below b1).more b1.size) HA.out)
    clear b1 H0
    go_wp2_with fail
    refine H1.out.mono ?_
    rintro e2 w2 ⟨tb, rfl, h2⟩
    have HI : Hid (∃ F, On F w w2 tb (layF l)) := Lib.hid (by obtain ⟨F, o, _⟩ := h2.out; exact ⟨F, o⟩)
    clear h2 H1
    unfold hd
    go_wp2_with fail
    go_loopw [5] (fun q wr => ∃ k : Nat, q = .int .i64 k ∧ k ≤ n ∧ Hid (∃ F, On F w wr tb (layF l))) (fun q _ => n - (intOf q).toNat)
    case atStart => exact ⟨0, rfl, by omega, HI⟩
    case round =>
      clear HI
      obtain ⟨k, rfl, hk, hst⟩ := hrel
      have hbw : Below w.heap.size w wr := by obtain ⟨F, o⟩ := hst.out; exact o.old
      by_cases hlt : k < n
      · have d1 : (0 : Int) ≤ (k : Int) := by omega
        have d2 : (k : Int) < (n : Int) := by omega
        obtain ⟨pb, off, A4, c4, rfl, _, hbB, k0, k1, k2, k3⟩ := HZ.out.1.at HZ.out.2 hbw hlt rfl
        have hmem := getD_mem (l := l) (k := k) (by have := HZ.out.2; omega)
        obtain ⟨r, hrr⟩ : ∃ r, l.getD k r0 = r := ⟨_, rfl⟩
        rw [hrr] at k0 k1 k2 k3 hmem
        obtain ⟨key', lv'⟩ := r
        simp only at k0 k1 k2 k3
        obtain ⟨ml, hml⟩ : ∃ ml, lv'.length = ml := ⟨_, rfl⟩
        rw [hml] at k1 k3
        have H3 := refrecord_any A4 c4 ml key' lv' hml k3.2.1 k3.2.2 wr (k2.more hbw.size)
        rw [decide_eq_true (HA.out _ hmem)] at H3
        have H3 := Lib.hid H3
        clear hbw k2 k3 hmem hrr hml
        go_wp2_with fail
        refine H3.out.mono ?_
        rintro e3 w3 ⟨rfl, b3⟩
        have HF : Hid (∃ F, On F w w3 tb (layF l)) := Lib.hid (by obtain ⟨F, o⟩ := hst.out; exact ⟨F, o.below b3⟩)
        clear hst b3 H3
        go_wp2_with fail
        go_roundw
        case rel => exact ⟨k + 1, by go_num, by omega, HF⟩
        case measure => simp only [intOf]; omega
      · have hkm : k = n := by omega
        subst hkm
        have H4 := Lib.hid (built_tw A c k l HZ.out.2 (by omega) w wr hbw HZ.out.1)
        clear hbw
        go_wp2_with fail
        refine H4.out.mono ?_
        rintro e4 w4 ⟨tb2, Aa, na, ca, rfl, hna, h4⟩
        rw [layG_all HA.out] at h4
        have HL := Lib.hid h4.out.1
        have S4 : Hid (Eld w wr.heap.size tb (layF l) w4 ∧ Tw w wr.heap.size tb2 (layF l) (.slice Aa na ca) w4) := Lib.hid ⟨by
          obtain ⟨F, o⟩ := hst.out
          exact ⟨F, o.below h4.out.2.2, fun k hk => o.lt hk⟩, h4.out.2.1⟩
        obtain ⟨L, hL⟩ : ∃ L, layF l = L := ⟨_, rfl⟩
        rw [hL] at HL S4
        have H5 := Lib.hid (eld_hash S4.out.1 S4.out.2 (by have := HL.out; omega))
        clear hst h4 H4 hL
        unfold hd
        go_wp2_with fail
        refine H5.out.mono ?_
        rintro e5 w5 ⟨rfl, S5⟩
        have H6 := Lib.hid (new_hash S5.out.1 S5.out.2 (by have := HL.out; omega))
        clear H5 S4
        go_wp2_with fail
        refine H6.out.mono ?_
        rintro e6 w6 ⟨rfl, S6⟩
        have H7 := Lib.hid (eld_recs S6.out.1 S6.out.2 (by have := HL.out; omega))
        clear H6 S5
        go_wp2_with fail
        refine H7.out.mono ?_
        rintro e7 w7 ⟨A7, m7, c7, rfl, h7⟩
        have T7 := Lib.hid h7.out.2.2
        have H8 := Lib.hid (same_recs c7 ca m7 na L h7.out.1 HL.out (by have := HL.out; omega) w7 h7.out.2.1 T7.out.rs)
        clear H7 S6 h7
        go_wp2_with fail
        refine H8.out.mono ?_
        rintro e8 w8 ⟨rfl, b8⟩
        have HE := Lib.hid (T7.out.below b8).old
        clear b8 H8
        go_wp2_with fail
        go_ret
        exact ⟨rfl, HE.out⟩
  · have HA := Lib.hid hall
    clear hl hn hall
    go_enter Tryz.func4, Tryz.ntmps4
    go_wp2_with fail
    refine H0.out.mono ?_
    rintro e1 w1 ⟨rfl, b1⟩
    have H1 := Lib.hid (no_new A c n l HZ.out.2 (by omega) ((HZ.out.1.below b1).more b1.size) HA.out)
    have HB := Lib.hid b1
    clear b1 H0
    go_wp2_with fail
    refine H1.out.mono ?_
    rintro e2 w2 ⟨rfl, b2⟩
    have HI : Hid (Below w.heap.size w w2) := Lib.hid (HB.out.trans (b2.mono HB.out.size))
    clear b2 H1
    go_wp2_with fail
    go_loopw [5] (fun q wr => ∃ k : Nat, q = .int .i64 k ∧ k ≤ n ∧ Hid ((∀ j, j < k → okR (l.getD j r0)) ∧ Below w.heap.size w wr)) (fun q _ => n - (intOf q).toNat)
    case atStart => exact ⟨0, rfl, by omega, Lib.hid ⟨fun j hj => by omega, HI.out⟩⟩
    case round =>
      clear HI
      obtain ⟨k, rfl, hk, hst⟩ := hrel
      have hbw := hst.out.2
      by_cases hlt : k < n
      · have d1 : (0 : Int) ≤ (k : Int) := by omega
        have d2 : (k : Int) < (n : Int) := by omega
        obtain ⟨pb, off, A4, c4, rfl, _, hbB, k0, k1, k2, k3⟩ := HZ.out.1.at HZ.out.2 hbw hlt rfl
        obtain ⟨r, hrr⟩ : ∃ r, l.getD k r0 = r := ⟨_, rfl⟩
        rw [hrr] at k0 k1 k2 k3
        obtain ⟨key', lv'⟩ := r
        simp only at k0 k1 k2 k3
        obtain ⟨ml, hml⟩ : ∃ ml, lv'.length = ml := ⟨_, rfl⟩
        rw [hml] at k1 k3
        have H3 := refrecord_any A4 c4 ml key' lv' hml k3.2.1 k3.2.2 wr (k2.more hbw.size)
        have HW := Lib.hid hbw
        have HR := Lib.hid hrr
        by_cases hok : okR (key', lv')
        · rw [decide_eq_true hok] at H3
          have H3 := Lib.hid H3
          have HO := Lib.hid hok
          clear hbw k2 k3 hrr hml hok
          go_wp2_with fail
          refine H3.out.mono ?_
          rintro e3 w3 ⟨rfl, b3⟩
          have HF : Hid ((∀ j, j < k + 1 → okR (l.getD j r0)) ∧ Below w.heap.size w w3) := Lib.hid ⟨fun j hj => by
            rcases Nat.lt_or_ge j k with h | h
            · exact hst.out.1 j h
            · rw [show j = k by omega, HR.out]
              exact HO.out, HW.out.trans (b3.mono HW.out.size)⟩
          clear hst b3 H3
          go_wp2_with fail
          go_roundw
          case rel => exact ⟨k + 1, by go_num, by omega, HF⟩
          case measure => simp only [intOf]; omega
        · rw [decide_eq_false hok] at H3
          have H3 := Lib.hid H3
          clear hbw k2 k3 hrr hml hok
          go_wp2_with fail
          refine H3.out.mono ?_
          rintro e3 w3 ⟨rfl, b3⟩
          have HE : Hid (Below w.heap.size w w3) := Lib.hid (HW.out.trans (b3.mono HW.out.size))
          clear hst b3 H3
          go_wp2_with fail
          go_ret
          exact ⟨rfl, HE.out⟩
      · exact absurd (fun r hr => by
          obtain ⟨j, hj, rfl⟩ := List.mem_iff_getElem.1 hr
          have h1 := hst.out.1 j (by have := HZ.out.2; omega)
          rwa [List.getD_eq_getElem?_getD, List.getElem?_eq_getElem hj] at h1) HA.out
-- ROW BEGIN
set_option maxRecDepth 100000 in
/-- What the walk gives, shut again. -/
theorem contract (H : Type) (enc : TypeId × Value → H) (W : World) (base : Nat) (args : Array Value) (ds gs : List (DataW H)) (before : List MemPlace)
    (hval : ∀ (j : Nat) t v, Tryz.f4.params[j]? = some t → args[j]? = some v → Value.okWide Tryz.prog W .any base t v)
    (hW : DataW.Whole enc Tryz.prog Tryz.f4.params.toList Rows.treeNewsSpec.vars false W args.toList ds gs before)
    (hsz : (DataW.weightsEach Tryz.prog (Tryz.f4.params.toList ++ Rows.treeNewsSpec.plain.varTypes Tryz.prog) (ds ++ gs)).all (· ≤ reachBytes) = true) :
    Calls Tryz.prog 4 args W fun e W' => ∃ v, e = .returned v ∧ Rows.treeNewsSpec.post enc Tryz.prog Tryz.f4 false true false false W args v W' := by
  have hW' := hW
  obtain ⟨p, q, hA0, hV, hbef, _, _⟩ := hW
  have hA : DataW.TrodAll enc Tryz.prog W 0 (fun _ => true) true Tryz.f4.params.toList args.toList ds p := hA0
  have hA1 := hA
  rw [Tryz.params4] at hA hval hsz
  obtain ⟨v0, vs0, d0, ds0, p0, q0, hargs, rfl, rfl, h0, r0⟩ := trodAll_cons hA
  obtain ⟨rfl, rfl, rfl⟩ := trodAll_nil r0
  obtain rfl : args = #[v0] := by cases args; simp_all
  obtain ⟨rfl, rfl⟩ := trodVars_none hV
  clear hA hargs
  obtain ⟨A0, c0, a0, rfl, n0, l0, b0⟩ := Tree.arg_recs (hval 0 22 v0 rfl rfl) h0 (Vers.wt_arg hsz (j := 0) rfl rfl)
  refine (walk W A0 c0 a0 n0 b0 l0).mono fun e W' ⟨he, hb⟩ => ?_
  subst he
  exact ⟨_, rfl, law_post Facts.laid (by rfl) Tryz.underlying4 (by rw [Tryz.params4]; decide +kernel) hW' hA1 rfl hbef rfl rfl rfl hb⟩

set_option maxRecDepth 100000 in
theorem lifted (os : Os) (started : os.Started) (H : Type) (enc : TypeId × Value → H) :
    ReturnsInHanded {} Tryz.checked os 4 .any (Rows.treeNewsSpec.pre6 enc Tryz.prog Tryz.f4 Rows.treeNewsRow.domain false) (Rows.treeNewsSpec.post enc Tryz.prog Tryz.f4 false true false false) := by
  refine returnsInHanded_of_change_sized (C := Tryz.checked) Facts.own started (by kernel_rfl) Tryz.func4
    (ChangeSpec.witness6 (enc := enc) (C := Tryz.checked) false ⟨#[], #[.slice none 0 0], []⟩ 8 (by kernel_rfl) (by kernel_rfl) (by kernel_rfl) (by kernel_rfl)) ?_
  intro W base args ds gs before hval hW _ hsz _
  exact contract H enc W base args ds gs before hval hW hsz

theorem holds : Rows.TreeNewsSaid :=
  OpenClaim.holds_of_wide 4 Tryz.f4 rfl rfl rfl rfl rfl rfl rfl ⟨rfl, rfl, rfl, rfl, rfl⟩ rfl rfl rfl rfl rfl (by kernel_rfl) Tryz.func4 (by kernel_rfl)
    (of_decide_eq_true (by kernel_rfl)) (by unfold Func.isWrapper; first | (rw [if_pos (by decide +kernel)]; kernel_rfl) | (rw [if_neg (by decide +kernel)]; exact ⟨rfl, rfl⟩))
    (fun os started H enc _ => lifted os started H enc)
-- ROW END
end TreeNews
end Go.Proofs.YtbaclinjimfncaaGreat
