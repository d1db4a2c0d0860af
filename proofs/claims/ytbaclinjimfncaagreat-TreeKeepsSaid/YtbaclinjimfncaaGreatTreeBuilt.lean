/-
  firthlaw11.built: a tree of the right ones of a list, and the records that are there.
-/
import Derived.Test.YtbaclinjimfncaaGreatTreeLaw
import Derived.Test.YtbaclinjimfncaaGreatTreeWith
import Derived.Test.YtbaclinjimfncaaGreatGCode
namespace Go.Proofs.YtbaclinjimfncaaGreat
namespace Tree
open Go.RowKit Vers Num Ring Disk Blk
open Go.Proofs.YtbaclinjimfncaaGreat.Code hiding Bn
attribute [local go_sem ↓] Go.wp_at_zero Go.wp_at_succ
/-- The records that come of a list: of its right ones. -/
def layG (l : List Rc) : List Rc := layF (l.filter fun r => decide (okR r))
theorem take_at {l : List Rc} {k : Nat} (hk : k < l.length) : l.take (k + 1) = l.take k ++ [l.getD k r0] := by
  rw [List.take_succ_eq_append_getElem hk]
  simp [List.getD_eq_getElem?_getD, hk]
theorem layG_good {l : List Rc} {k : Nat} {r : Rc} (hk : k < l.length) (hr : l.getD k r0 = r) (h : okR r) : layG (l.take (k + 1)) = withR (layG (l.take k)) r := by
  rw [take_at hk, hr]
  unfold layG
  rw [List.filter_append, List.filter_cons, if_pos (by simp [h]), List.filter_nil, layF_snoc]
theorem layG_bad {l : List Rc} {k : Nat} {r : Rc} (hk : k < l.length) (hr : l.getD k r0 = r) (h : ¬ okR r) : layG (l.take (k + 1)) = layG (l.take k) := by
  rw [take_at hk, hr]
  unfold layG
  rw [List.filter_append, List.filter_cons, if_neg (by simp [h]), List.filter_nil, List.append_nil]
theorem layG_len (l : List Rc) : (layG l).length ≤ l.length := by
  have h1 := fold_len (l.filter fun r => decide (okR r)) []
  have h2 := List.length_filter_le (fun r => decide (okR r)) l
  unfold layG layF
  simp only [List.length_nil, Nat.zero_add] at h1
  omega
/-- A tree over F, and its records in a row beside it. -/
def Pair (F : Nat → Prop) (w : World) (B : Nat) (W : World) (tb : Nat) (L : List Rc) (v : Value) (ps : List Pr) : Prop :=
  On F w W tb L ∧ ps.map Prod.fst = L ∧ RowX B w.heap.size W v ps ∧ (∀ g, v.ownBlock = some g → ¬ F g) ∧ ∀ k, F k → B ≤ k
def Built (l : List Rc) (w V : World) (e : Ending) (w' : World) : Prop :=
  ∃ tb Aa na ca, e = .returned (.tuple #[hd tb, .slice Aa na ca, .bool true]) ∧ Hid ((layG l).length = na ∧ na ≤ ca ∧ ∃ F ps, Pair F w V.heap.size w' tb (layG l) (.slice Aa na ca) ps ∧ Below V.heap.size V w')
def Going2 (l : List Rc) (n : Nat) (w V : World) (tb : Nat) (v q : Value) (wr : World) : Prop :=
  ∃ (k na : Nat) (Aa : Option Addr) (ca : Nat), q = .int .i64 k ∧ k ≤ n ∧ v = .slice Aa na ca ∧ na ≤ k ∧ Hid ((layG (l.take k)).length = na ∧ na ≤ ca ∧ ∃ F ps, Pair F w V.heap.size wr tb (layG (l.take k)) (.slice Aa na ca) ps ∧ Below V.heap.size V wr)
theorem RowX.keep {base B : Nat} {w w' : World} {v : Value} {ps : List Pr} (h : RowX base B w v ps) (hv : ∀ g, v.ownBlock = some g → w'.heap[g]? = w.heap[g]?) (hk : ∀ k, k < B → w'.heap[k]? = w.heap[k]?) : RowX base B w' v ps := by
  refine ⟨⟨h.1.1, ?_⟩, fun p hp => ⟨(h.2 p hp).1.keep fun a _ ha => World.cell?_of_block (hk _ ha), (h.2 p hp).2⟩⟩
  rcases h.1.2 with hn | ⟨g, cap, cur, rfl, hbg, hg, rest⟩
  · exact .inl hn
  · exact .inr ⟨g, cap, cur, rfl, hbg, by rw [hv g rfl]; exact hg, rest⟩
theorem RowX.lt {base B : Nat} {w : World} {v : Value} {ps : List Pr} (h : RowX base B w v ps) (g : Nat) (hg : v.ownBlock = some g) : base ≤ g ∧ g < w.heap.size := ⟨(h.1.lt g hg).1, (h.1.lt g hg).2⟩
/-- Another tree, or nothing of it, is turned. -/
theorem Pair.chg {F G : Nat → Prop} {w W W' : World} {B tb : Nat} {L : List Rc} {v : Value} {ps : List Pr} (h : Pair F w B W tb L v ps) (hc : Chg G W W') (hG : ∀ k, F k → ¬ G k) (hv : ∀ g, v.ownBlock = some g → ¬ G g) (hw : ∀ k, G k → w.heap.size ≤ k) : Pair F w B W' tb L v ps :=
  ⟨h.1.chg hc hG hw, h.2.1, h.2.2.1.keep (fun g hg => hc.block g (h.2.2.1.lt g hg).2 (hv g hg)) (fun k hk => hc.block k (Nat.lt_of_lt_of_le hk h.1.old.size) fun e => by have := hw k e; omega), h.2.2.2⟩
theorem Pair.below {F : Nat → Prop} {w W W' : World} {B tb : Nat} {L : List Rc} {v : Value} {ps : List Pr} (h : Pair F w B W tb L v ps) (hb : Below W.heap.size W W') : Pair F w B W' tb L v ps :=
  h.chg (G := fun _ => False) (Chg.of_below hb) (fun _ _ q => q) (fun _ _ q => q) (fun _ q => q.elim)
set_option maxRecDepth 100000 in
set_option maxHeartbeats 4000000 in
theorem built_any (A : Option Addr) (c n : Nat) (l : List Rc) (hn : l.length = n) (hbig : n ≤ 3518437208780) (w V : World) (hw : Below w.heap.size w V) (hr : Rs w 0 w.heap.size A l) :
    Calls Tryz.prog 10 #[.slice A n c] V (Built l w V) := by
  have H0 := Lib.hid (on_new hw none 0 0 [] rfl (by omega) rs_nil (by simp))
  have HP := Lib.hid (And.intro hn (And.intro hw hr))
  clear hn hw hr
  go_enter Tryz.func10, Tryz.ntmps10
  go_wp2_with fail
  refine H0.out.mono ?_
  rintro e1 w1 ⟨tb, rfl, h1⟩
  have HI : Hid (Going2 l n w V tb (.slice none 0 0) (.int .i64 0) w1) := Lib.hid (by
    obtain ⟨F, o1, hF, hb⟩ := h1.out
    exact ⟨0, 0, none, 0, rfl, by omega, rfl, Nat.le_refl _, Lib.hid ⟨rfl, Nat.le_refl _, F, [], ⟨o1, rfl, rowX_nil _ _ _, (fun g hg => by cases hg), hF⟩, hb⟩⟩)
  clear h1 H0
  unfold hd
  go_wp2_with fail
  go_loopw [7, 8] (fun v q wr => Going2 l n w V tb v q wr) (fun _ q _ => n - (intOf q).toNat)
  case atStart => exact HI.out
  case round =>
    clear HI
    obtain ⟨k, na, Aa, ca, rfl, hk, rfl, hna, hst⟩ := hrel
    have hbV : Below V.heap.size V wr := by obtain ⟨_, _, F, ps, _, hb⟩ := hst.out; exact hb
    have hbw : Below w.heap.size w wr := HP.out.2.1.trans (hbV.mono HP.out.2.1.size)
    by_cases hlt : k < n
    · have d1 : (0 : Int) ≤ (k : Int) := by omega
      have d2 : (k : Int) < (n : Int) := by omega
      obtain ⟨pb, off, A4, c4, rfl, _, hbB, k0, k1, k2, k3⟩ := HP.out.2.2.at HP.out.1 hbw hlt rfl
      obtain ⟨r, hrr⟩ : ∃ r, l.getD k r0 = r := ⟨_, rfl⟩
      rw [hrr] at k0 k1 k2 k3
      obtain ⟨key', lv'⟩ := r
      simp only at k0 k1 k2 k3
      obtain ⟨ml, hml⟩ : ∃ ml, lv'.length = ml := ⟨_, rfl⟩
      rw [hml] at k1 k3
      have hkl : k < l.length := by have := HP.out.1; omega
      have hVw := hbV.size
      have hwV := HP.out.2.1.size
      have hww := hbw.size
      by_cases hok : okR (key', lv')
      · have HS : Hid (Calls Tryz.prog 21 #[.pointer (some ⟨tb, 0, none⟩), .agg #[.string key', .slice A4 ml c4]] wr (fun e w2 => e = .returned (.int .i64 0) ∧ w2.cell? ⟨pb, off + k * 2, none⟩ = some (.string key') ∧ w2.cell? ⟨pb, off + k * 2 + 1, none⟩ = some (.slice A4 ml c4) ∧ Hid (Calls Tryz.prog 20 #[.agg #[.string key', .slice A4 ml c4]] w2 (fun e w3 => e = .returned (.bool true) ∧ w3.cell? ⟨pb, off + k * 2, none⟩ = some (.string key') ∧ w3.cell? ⟨pb, off + k * 2 + 1, none⟩ = some (.slice A4 ml c4) ∧ Hid (Calls Tryz.prog 26 #[.slice Aa na ca, .agg #[.string key', .slice A4 ml c4]] w3 (fun e w4 => ∃ A5 n5 c5, e = .returned (.slice A5 n5 c5) ∧ Hid (Going2 l n w V tb (.slice A5 n5 c5) (.int .i64 ((k : Int) + 1)) w4))))))) := Lib.hid (by
          obtain ⟨g1, g2, F, ps, hp, hb⟩ := hst.out
          refine (hp.1.set (by rw [g1]; omega) key' A4 c4 ml lv' hml (k2.more hww) hok).mono ?_
          rintro e w2 ⟨rfl, h2⟩
          obtain ⟨F', o2, s2⟩ := h2.out
          have b2 : Below V.heap.size wr w2 := s2.1.below hp.2.2.2.2 hVw
          have hF' : ∀ j, F' j → V.heap.size ≤ j := fun j hj => (s2.2 j hj).elim (hp.2.2.2.2 j) (Nat.le_trans hVw)
          have hrow : RowX V.heap.size w.heap.size w2 (.slice Aa na ca) ps := hp.2.2.1.keep (fun g hg => s2.1.block g (hp.2.2.1.lt g hg).2 (hp.2.2.2.1 g hg)) (fun j hj => b2.block j (by omega))
          refine ⟨rfl, (b2.cell (p := ⟨pb, _, none⟩) (by show pb < _; omega)).trans k0, (b2.cell (p := ⟨pb, _, none⟩) (by show pb < _; omega)).trans k1, Lib.hid ?_⟩
          have hV2 := Nat.le_trans hVw b2.size
          refine (refrecord_any A4 c4 ml key' lv' hml k3.2.1 k3.2.2 w2 ((k2.below (b2.mono hwV)).more (Nat.le_trans hwV hV2))).mono ?_
          rintro e w3 ⟨rfl, b3⟩
          rw [decide_eq_true hok]
          have b23 := b2.trans (b3.mono hV2)
          have hV3 := Nat.le_trans hV2 b3.size
          refine ⟨rfl, (b23.cell (p := ⟨pb, _, none⟩) (by show pb < _; omega)).trans k0, (b23.cell (p := ⟨pb, _, none⟩) (by show pb < _; omega)).trans k1, Lib.hid ?_⟩
          have hrow3 : RowX V.heap.size w.heap.size w3 (.slice Aa na ca) ps := hrow.keep (fun g hg => b3.block g (hrow.lt g hg).2) (fun j hj => b3.block j (by omega))
          have hrb := hrow3.rb
          rw [hp.2.1] at hrb
          refine (with_any Aa A4 ca c4 na ml w.heap.size (layG (l.take k)) key' lv' g1 (by omega) hml k3 w3 (Nat.le_trans hwV hV3) hrb (k2.below (b23.mono hwV))).mono ?_
          rintro e w4 ⟨A5, n5, c5, ps5, rfl, h5, b4⟩
          have o4 := (o2.below b3).below b4
          refine ⟨A5, n5, c5, rfl, Lib.hid ⟨k + 1, n5, A5, c5, by go_num, by omega, rfl, ?_, Lib.hid ?_⟩⟩
          · have h6 := with_len (layG (l.take k)) (key', lv')
            rw [g1, h5.out.2.1] at h6
            omega
          · rw [layG_good hkl hrr hok]
            exact ⟨h5.out.2.1, h5.out.2.2.1, F', ps5, ⟨o4, h5.out.1, h5.out.2.2.2.low hV3, (fun g hg hf => by have := (h5.out.2.2.2.lt g hg).1; have := (o2.below b3).lt hf; omega), hF'⟩, hb.trans (b23.trans (b4.mono hV3))⟩)
        clear hst hbV k2 k3 hrr hml hok
        go_wp2_with fail
        refine HS.out.mono ?_
        rintro e2 w2 ⟨rfl, q0, q1, HR⟩
        go_wp2_with fail
        refine HR.out.mono ?_
        rintro e3 w3 ⟨rfl, r0, r1, HW⟩
        go_wp2_with fail
        refine HW.out.mono ?_
        rintro e4 w4 ⟨A5, n5, c5, rfl, HF⟩
        go_wp2_with fail
        go_roundw
        case rel => exact HF.out
        case measure => simp only [intOf]; omega
      · have HS : Hid (Calls Tryz.prog 21 #[.pointer (some ⟨tb, 0, none⟩), .agg #[.string key', .slice A4 ml c4]] wr (fun e w2 => e = .returned (.int .i64 1) ∧ w2.cell? ⟨pb, off + k * 2, none⟩ = some (.string key') ∧ w2.cell? ⟨pb, off + k * 2 + 1, none⟩ = some (.slice A4 ml c4) ∧ Hid (Calls Tryz.prog 20 #[.agg #[.string key', .slice A4 ml c4]] w2 (fun e w3 => e = .returned (.bool false) ∧ Hid (Going2 l n w V tb (.slice Aa na ca) (.int .i64 ((k : Int) + 1)) w3))))) := Lib.hid (by
          obtain ⟨g1, g2, F, ps, hp, hb⟩ := hst.out
          refine (hp.1.bad key' A4 c4 ml lv' hml k3.2.1 k3.2.2 (k2.more hww) hok).mono ?_
          rintro e w2 ⟨rfl, h2⟩
          have b2 := h2.out.2
          refine ⟨rfl, (b2.cell (p := ⟨pb, _, none⟩) (by show pb < _; omega)).trans k0, (b2.cell (p := ⟨pb, _, none⟩) (by show pb < _; omega)).trans k1, Lib.hid ?_⟩
          refine (refrecord_any A4 c4 ml key' lv' hml k3.2.1 k3.2.2 w2 ((k2.below (b2.mono hww)).more (Nat.le_trans hww b2.size))).mono ?_
          rintro e w3 ⟨rfl, b3⟩
          rw [decide_eq_false hok]
          have b23 := b2.trans (b3.mono b2.size)
          exact ⟨rfl, Lib.hid ⟨k + 1, na, Aa, ca, by go_num, by omega, rfl, by omega, Lib.hid (by rw [layG_bad hkl hrr hok]; exact ⟨g1, g2, F, ps, hp.below b23, hb.trans (b23.mono hVw)⟩)⟩⟩)
        clear hst hbV k2 k3 hrr hml hok
        go_wp2_with fail
        refine HS.out.mono ?_
        rintro e2 w2 ⟨rfl, q0, q1, HR⟩
        go_wp2_with fail
        refine HR.out.mono ?_
        rintro e3 w3 ⟨rfl, HF⟩
        go_wp2_with fail
        go_roundw
        case rel => exact HF.out
        case measure => simp only [intOf]; omega
    · have hkm : k = n := by omega
      subst hkm
      have hfull : l.take k = l := List.take_of_length_le (by have := HP.out.1; omega)
      rw [hfull] at hst
      have HF : Hid (Built l w V (.returned (.tuple #[hd tb, .slice Aa na ca, .bool true])) wr) := Lib.hid ⟨tb, Aa, na, ca, rfl, hst⟩
      clear hst hfull
      unfold hd at HF
      go_wp2_with fail
      go_ret3
      exact HF.out
end Tree
end Go.Proofs.YtbaclinjimfncaaGreat
