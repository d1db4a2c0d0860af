/-
 PullAll: who pulls, told step by step what is asked for in any order, lacks nothing of the cut then (where no two unlike places have one hash).
-/
import Derived.Test.YtkfdplfgaddkmaaGreatK39
import Derived.Test.YtkfdplfgaddkmaaGreatK35
import Derived.Test.YtkfdplfgaddkmaaGreatK28
import Derived.Test.YtkfdplfgaddkmaaGreatK36
namespace Go.Proofs.YtkfdplfgaddkmaaGreat
namespace PullAll
open Go.ChangeShapes Go.WideShapes Go.ChangeAt Go.RowKit Vers Num Ring Disk Blk Tree Mend Pull
open Go.Proofs.YtkfdplfgaddkmaaGreat.Code hiding Bn
attribute [local go_sem ↓] Go.wp_at_zero Go.wp_at_succ
theorem get_up (A : Option Addr) (c n : Nat) (b : List Rc) (hn : b.length = n) (hbig : n ≤ 140737488355328) (key : Nm) (V : World) (hr : Rs V 0 V.heap.size A b) :
  Calls Tryz.prog 38 #[.slice A n c, .string key] V (fun e w' => ∃ A m c, e = .returned (.slice A m c) ∧ Hid ((getF b key).length = m ∧ m ≤ 140737488355328 ∧ Vs V 0 V.heap.size A (getF b key)) ∧ V = w') := by
 refine (get_any A c n V.heap.size b hn key V (Nat.le_refl _) (rs_rb hr) hbig).mono ?_
 rintro e w' ⟨A, m, c, rfl, h, rfl⟩
 exact ⟨A, m, c, rfl, Lib.hid ⟨h.out.1, h.out.2.2.1, h.out.2.2.2⟩, rfl⟩
def Cells2 (U : World) (b off : Nat) (x y : Value) (X : World) : Prop := X.cell? ⟨b, off, none⟩ = some x ∧ X.cell? ⟨b, off + 1, none⟩ = some y ∧ Below U.heap.size U X ∧ b < U.heap.size
theorem cells2_below {U X Y : World} {b off : Nat} {x y : Value} (hb : Below X.heap.size X Y) (h : Cells2 U b off x y X) : Cells2 U b off x y Y := by
 obtain ⟨h1, h2, h3, h4⟩ := h
 have hs := h3.size
 exact ⟨(hb.cell (p := ⟨b, off, none⟩) (by show b < _; omega)).trans h1, (hb.cell (p := ⟨b, off + 1, none⟩) (by show b < _; omega)).trans h2, h3.trans (hb.mono hs), h4⟩
set_option maxRecDepth 100000 in
set_option maxHeartbeats 8000000 in
theorem walk (w : World) (A : Option Addr) (c : Nat) (own : List Rc) (ha : Rs w 0 w.heap.size A own) (hb : own.length * 40 ≤ 140737488351232) (_hc : own.length ≤ c) (A' : Option Addr) (c' : Nat) (cut : List Rc) (ha' : Rs w 0 w.heap.size A' cut) (hb' : cut.length * 40 ≤ 140737488351232) (_hc' : cut.length ≤ c')
  (Ao : Option Addr) (co : Nat) (order : List Int) (ho : Ns .i64 w w.heap.size Ao order) (_hwf : ∀ z ∈ order, -9223372036854775808 ≤ z ∧ z ≤ 9223372036854775807) (hob : order.length * 8 ≤ 140737488351232) (_hoc : order.length ≤ co) :
  Calls Tryz.prog 5 #[.slice A own.length c, .slice A' cut.length c', .slice Ao order.length co] w fun e w' => e = .returned (.bool true) ∧ Below w.heap.size w w' := by
 obtain ⟨n, hn⟩ : ∃ n, own.length = n := ⟨_, rfl⟩
 obtain ⟨n', hn'⟩ : ∃ n, cut.length = n := ⟨_, rfl⟩
 obtain ⟨no, hno⟩ : ∃ n, order.length = n := ⟨_, rfl⟩
 rw [hn] at hb ⊢
 rw [hn'] at hb' ⊢
 rw [hno] at hob ⊢
 have HP : Hid ((∀ W, Below w.heap.size w W → Rs W 0 W.heap.size A own) ∧ (∀ W, Below w.heap.size w W → Rs W 0 W.heap.size A' cut) ∧ own.length = n ∧ cut.length = n' ∧ order.length = no) := Lib.hid ⟨fun W h => (ha.below h).more h.size, fun W h => (ha'.below h).more h.size, hn, hn', hno⟩
 have HO := Lib.hid ho
 have H0 := Lib.hid (awake_any w)
 clear ha ha' hn hn' ho hno
 go_enter Tryz.func5, Tryz.ntmps5
 go_wp2_with fail
 refine H0.out.mono ?_
 rintro e1 w1 ⟨rfl, b1⟩
 have B1 := Lib.hid b1
 have H1 := Lib.hid (held_up A c n own HP.out.2.2.1 (by omega) w1 (HP.out.1 w1 b1))
 clear b1 H0
 go_wp2_with fail
 refine H1.out.mono ?_
 rintro e2 w2 (⟨hok, Aa, na, ca, rfl, h2, b2⟩ | ⟨hno, rfl, b2⟩)
 ·have B2 := Lib.hid (B1.out.trans (b2.mono B1.out.size))
  have H3 := Lib.hid (held_up A' c' n' cut HP.out.2.2.2.1 (by omega) w2 (HP.out.2.1 w2 B2.out))
  have HA := Lib.hid (And.intro hok h2.out)
  clear h2 b2 H1 hok B1
  go_wp2_with fail
  refine H3.out.mono ?_
  rintro e3 w3 (⟨hok', Ab, nb, cb', rfl, h3, b3⟩ | ⟨hno, rfl, b3⟩)
  ·have B3 := Lib.hid (B2.out.trans (b3.mono B2.out.size))
   have hra : Rs w3 0 w3.heap.size Aa (heldF own) := (HA.out.2.2.2.2.below b3).more b3.size
   have hla : (heldF own).length = na := HA.out.2.1
   have hlb : (heldF cut).length = nb := h3.out.1
   have hna : na ≤ 3518437208780 := by have := HA.out.2.2.2.1; omega
   have hnb : nb ≤ 3518437208780 := by have := h3.out.2.2.1; omega
   have hd := doubts_any Aa Ab ca cb' na nb (heldF own) (heldF cut) hla hlb hna hnb (okL_held HA.out.1) (okL_held hok') w3 hra h3.out.2.2.2
   rw [held_self (held_hel own), held_self (held_hel cut)] at hd
   have K3 := Lib.hid hd
   have HB := Lib.hid (And.intro hok' (And.intro hra (And.intro h3.out.2.2.2 (And.intro hla hlb))))
   clear hd h3 b3 H3 hok' hra hla hlb
   go_wp2_with fail
   refine K3.out.mono ?_
   rintro e4 w4 ⟨⟨d, rfl, hdb⟩, b4⟩
   have B4 := Lib.hid (B3.out.trans (b4.mono B3.out.size))
   rcases d with _ | _
   ·have HDB := Lib.hid (hdb rfl)
    have hra : Rs w4 0 w4.heap.size Aa (heldF own) := (HB.out.2.1.below b4).more b4.size
    have hrb : Rs w4 0 w4.heap.size Ab (heldF cut) := (HB.out.2.2.1.below b4).more b4.size
    obtain ⟨U, hU⟩ : ∃ U, w4.alloc (.cells #[.int .i64 5] 2) = U := ⟨_, rfl⟩
    have bU1 : Below w4.heap.size w4 U := by rw [← hU]; exact (Below.refl _ w4).alloc (Nat.le_refl _) _
    have bU : Below w.heap.size w U := B4.out.trans (bU1.mono B4.out.size)
    have nU : Ns .i64 U U.heap.size (some ⟨w4.heap.size, 0, none⟩) [5] := by rw [← hU]; exact ns_lit w4 5
    obtain ⟨vb, hvb⟩ : ∃ vb, w4.heap.size = vb := ⟨_, rfl⟩
    rw [hvb] at nU
    have K5 := Lib.hid (newcut_yes bU 1 (some ⟨vb, 0, none⟩) A' 1 1 n' c' [5] cut rfl HP.out.2.2.2.1 (by omega) (by omega) nU (HP.out.2.1 U bU) (by decide) HB.out.1)
    have HU := Lib.hid (And.intro bU (And.intro ((hra.below bU1).more bU1.size) ((hrb.below bU1).more bU1.size)))
    clear hdb b4 K3 hra hrb bU1 bU nU
    go_wp2_with fail
    clear hU hvb
    refine K5.out.mono ?_
    rintro e5 w5 ⟨cb, rfl, h5, b5⟩
    have bw5 : Below w.heap.size w w5 := HU.out.1.trans (b5.mono HU.out.1.size)
    have K6 := Lib.hid (newpull_yes bw5 1 A n c own HP.out.2.2.1 (by omega) (HP.out.1 w5 bw5) HA.out.1)
    obtain ⟨Fc, hcn, hcn2⟩ := h5.out
    have H5 := Lib.hid (And.intro hcn (And.intro hcn2 (And.intro b5 (And.intro ((HU.out.2.1.below b5).more b5.size) ((HU.out.2.2.below b5).more b5.size)))))
    clear h5 b5 bw5 hcn hcn2 K5
    unfold hd at K6 ⊢
    go_wp2_with fail
    refine K6.out.mono ?_
    rintro e6 w6 ⟨pb, rfl, h6, b6⟩
    obtain ⟨Fp, hpj, hpn⟩ := h6.out
    have hU5 := H5.out.2.2.1.size
    have hUF : ∀ k, Un Fc Fp k → U.heap.size ≤ k := fun k hk => hk.elim (H5.out.2.1 k) fun q => by have := hpn k q; omega
    have T := Lib.hid (pp_made H5.out.1 b6 hpj hpn)
    have HSa : Hid (Sta (Un Fc Fp) w6 (fun X => Rs X 0 X.heap.size Aa (heldF own)) ∧ Sta (Un Fc Fp) w6 (fun X => Rs X 0 X.heap.size Ab (heldF cut))) := Lib.hid ⟨sta_rs (((HU.out.2.1.below H5.out.2.2.1).below (b6.mono hU5))) (by have := b6.size; omega) hUF, sta_rs (((HU.out.2.2.below H5.out.2.2.1).below (b6.mono hU5))) (by have := b6.size; omega) hUF⟩
    clear h6 b6 hpj hpn hU5 hUF H5 K6 HU
    have Ka := Lib.hid T.out.cvec
    unfold hd at Ka
    go_wp2_with fail
    refine Ka.out.mono ?_
    rintro e7 w7 ⟨A7, c7, n7, rfl, h7, b7⟩
    obtain rfl : 1 = n7 := h7.out.1
    have t7 := T.out.below b7
    have Kb := Lib.hid t7.open_any
    have T7 := Lib.hid (And.intro t7 (And.intro h7.out.2.2.1 (And.intro (sta_below HSa.out.1 b7) (sta_below HSa.out.2 b7))))
    unfold hd at Kb
    clear h7 b7 t7 Ka T HSa
    go_wp2_with fail
    refine Kb.out.mono ?_
    rintro e8 w8 ⟨A8, m8, c8, rfl, h8⟩
    have hs8 := h8.out.2.2.2
    have Kc := Lib.hid (h8.out.2.2.1.pull.begin_yes (by simp) A7 A8 c7 c8 1 m8 [5] (kidsF (layF cut) []) rfl h8.out.1 (by decide) ((sta_stp T7.out.2.1 hs8).less fun k hk => .inr hk) (h8.out.2.1.less fun k hk => .inr hk))
    have T8 := Lib.hid (And.intro h8.out.2.2.1 (And.intro (sta_stp T7.out.2.2.1 hs8) (sta_stp T7.out.2.2.2 hs8)))
    unfold hd at Kc
    clear h8 hs8 Kb T7
    go_wp2_with fail
    refine Kc.out.mono ?_
    rintro e9 w9 ⟨rfl, F9, h9⟩
    have s9 := T8.out.1.step h9.out.1 h9.out.2
    have T9 := Lib.hid (And.intro s9.1 (And.intro (sta_stp T8.out.2.1 s9.2) (sta_stp T8.out.2.2 s9.2)))
    clear h9 s9 Kc T8
    have Kt := Lib.hid (told_any T9.out.1 (Tl.start (layF own) (layF cut)) (work_start _ _) Ao co no order HP.out.2.2.2.2 (by omega) (sta_ns (HO.out.below T9.out.1.cut.old) T9.out.1.cut.old.size fun j hj => T9.out.1.new hj))
    unfold hd at Kt
    go_wp2_with fail
    refine Kt.out.mono ?_
    rintro e10 w10 ⟨rfl, F10, TT, st, h10⟩
    have hl10 := h10.out.2.1
    have Kd := Lib.hid h10.out.1.pull.done_any
    have T10 := Lib.hid (And.intro h10.out.1 (And.intro hl10 (And.intro (sta_stp T9.out.2.1 h10.out.2.2) (sta_stp T9.out.2.2 h10.out.2.2))))
    rw [show ((true && decide (([] : List (List Int)) = [])) = true) from rfl] at Kd
    unfold hd at Kd
    clear h10 hl10 Kt T9
    go_wp2_with fail
    refine Kd.out.mono ?_
    rintro e11 w11 ⟨rfl, hw11⟩
    obtain rfl := hw11.symm
    have hcl := T10.out.1.cut.few
    have hsl := T10.out.2.1.stlen
    have Ks := Lib.hid (T10.out.1.pull.staged_any (by omega))
    unfold hd at Ks
    clear Kd
    go_wp2_with fail
    refine Ks.out.mono ?_
    rintro e12 w12 ⟨Ai, ni, ci, pss, rfl, hs, bs⟩
    obtain ⟨q1, q2, q3, q4⟩ := hs.out
    have hri : Rs w12 0 w12.heap.size Ai st := by
     have h := q4.rs.less (Nat.zero_le _)
     rwa [q1] at h
    have hla : Lst (heldF own) := Lst.held HA.out.1
    have hlb : Lst (heldF cut) := Lst.held HB.out.1
    have HW : Hid (∀ k, getF st k = getF (heldF cut) k ∨ (getF st k = [] ∧ getF (heldF own) k = getF (heldF cut) k)) := Lib.hid fun k => T10.out.2.1.whole hla hlb HDB.out k
    have HT : Hid (∀ r ∈ st, getF (heldF cut) r.1 = r.2) := Lib.hid fun r hr => T10.out.2.1.theirs hr
    have HR : Hid (Below w.heap.size w w12 ∧ Rs w12 0 w12.heap.size Aa (heldF own) ∧ Rs w12 0 w12.heap.size Ab (heldF cut) ∧ Rs w12 0 w12.heap.size Ai st ∧ st.length = ni ∧ (heldF own).length = na ∧ (heldF cut).length = nb ∧ Lst (heldF cut) ∧ Lst st) := Lib.hid ⟨T10.out.1.cut.old.trans (bs.mono T10.out.1.cut.old.size), (T10.out.2.2.1.now.below bs).more bs.size, (T10.out.2.2.2.now.below bs).more bs.size, hri, q2.symm, HB.out.2.2.2.1, HB.out.2.2.2.2, hlb, T10.out.2.1.lst⟩
    have hni : ni ≤ 3518437208882 := by omega
    clear q1 q2 q3 q4 hri hs bs Ks hcl hsl hla hlb T10
    obtain ⟨Wb, hWb⟩ : ∃ X, X = w12 := ⟨_, rfl⟩
    subst hWb
    obtain ⟨b, hbb⟩ : ∃ b, heldF cut = b := ⟨_, rfl⟩
    obtain ⟨a, haa⟩ : ∃ a, heldF own = a := ⟨_, rfl⟩
    rw [hbb, haa] at HR HW
    rw [hbb] at HT
    clear HB HA HDB hbb haa
    go_wp2_with fail
    go_loopw [16] (fun q wr => ∃ k : Nat, q = .int .i64 k ∧ k ≤ nb ∧ Hid (Below Wb.heap.size Wb wr)) (fun q _ => nb - (intOf q).toNat)
    case atStart => exact ⟨0, rfl, by omega, Lib.hid (Below.refl _ _)⟩
    case round =>
     obtain ⟨k, rfl, hk, hst⟩ := hrel
     by_cases hlt : k < nb
     ·have d1 : (0 : Int) ≤ (k : Int) := by omega
      have d2 : (k : Int) < (nb : Int) := by omega
      obtain ⟨gb, ob, A4, c4, rfl, _, hgb, k0, k1, k2, k3⟩ := HR.out.2.2.1.at HR.out.2.2.2.2.2.2.1 hst.out hlt rfl
      obtain ⟨r, hrr⟩ : ∃ r, b.getD k r0 = r := ⟨_, rfl⟩
      have hmem : r ∈ b := by rw [← hrr]; exact getD_mem (by have := HR.out.2.2.2.2.2.2.1; omega)
      rw [hrr] at k0 k1 k2 k3
      obtain ⟨key, lv⟩ := r
      simp only at k0 k1 k2 k3
      have hgl : getF b key = lv := getF_mem HR.out.2.2.2.2.2.2.2.1.1.1 hmem
      have hlne : lv ≠ [] := HR.out.2.2.2.2.2.2.2.1.1.2 _ hmem
      obtain ⟨ml, hml⟩ : ∃ ml, lv.length = ml := ⟨_, rfl⟩
      rw [hml] at k1 k3
      have hs := hst.out.size
      have Kg := Lib.hid (get_up Aa ca na a HR.out.2.2.2.2.2.1 (by omega) key wr ((HR.out.2.1.below hst.out).more hs))
      have Ki := Lib.hid (get_up Ai ci ni st HR.out.2.2.2.2.1 (by omega) key wr ((HR.out.2.2.2.1.below hst.out).more hs))
      have HK := Lib.hid (And.intro hgl (And.intro hlne (And.intro hml (And.intro (k2.more hs) k3.2.1))))
      clear hgl hlne hml k2 k3 hrr hmem hs
      go_wp2_with fail
      refine Kg.out.mono ?_
      rintro e13 w13 ⟨Am, mm, cm, rfl, h13, hw⟩
      subst hw
      have H13 := Lib.hid h13.out
      clear h13 Kg
      go_wp2_with fail
      refine Ki.out.mono ?_
      rintro e14 w14 ⟨Ag, mg, cg, rfl, h14, hw⟩
      subst hw
      have hsame := ref_sameV_any Ag A4 cg c4 mg ml (getF st key) lv h14.out.1 HK.out.2.2.1 wr h14.out.2.2 HK.out.2.2.2.1 h14.out.2.1 HK.out.2.2.2.2
      have hgm := h14.out.1
      clear h14 Ki
      by_cases hD : getF st key = lv
      ·rw [decide_eq_true hD] at hsame
       have Ks := Lib.hid hsame
       clear hsame hgm hD
       go_wp2_with fail
       refine Ks.out.mono ?_
       rintro e15 w15 ⟨rfl, b15⟩
       have HN := Lib.hid (hst.out.trans (b15.mono hst.out.size))
       clear b15 Ks hst k0 k1
       go_wp2_with fail
       go_roundw
       case rel => exact ⟨k + 1, by go_num, by omega, HN⟩
       case measure => simp only [intOf]; omega
      ·rw [decide_eq_false hD] at hsame
       have hor := (HW.out key).resolve_left (by rw [HK.out.1]; exact hD)
       have hmg : mg = 0 := by rw [← hgm, hor.1]; rfl
       subst hmg
       have hmine : getF a key = lv := by rw [hor.2, HK.out.1]
       have Ks := Lib.hid hsame
       have HM := Lib.hid hmine
       clear hsame hgm hD hor hmine
       go_wp2_with fail
       refine Ks.out.mono ?_
       rintro e15 w15 ⟨rfl, b15⟩
       have hb15 := hst.out.trans (b15.mono hst.out.size)
       have q0 := (b15.cell (p := ⟨gb, ob + k * 2, none⟩) (show gb < _ by have := hst.out.size; omega)).trans k0
       have q1 := (b15.cell (p := ⟨gb, ob + k * 2 + 1, none⟩) (show gb < _ by have := hst.out.size; omega)).trans k1
       have hsame2 := ref_sameV_any Am A4 cm c4 mm ml (getF a key) lv H13.out.1 HK.out.2.2.1 w15 ((H13.out.2.2.below b15).more b15.size) ((HK.out.2.2.2.1.below b15).more b15.size) H13.out.2.1 HK.out.2.2.2.2
       rw [decide_eq_true HM.out] at hsame2
       have Ks2 := Lib.hid hsame2
       have HB15 := Lib.hid hb15
       clear hsame2 Ks b15 hb15 k0 k1
       go_wp2_with fail
       refine Ks2.out.mono ?_
       rintro e16 w16 ⟨rfl, b16⟩
       have HN := Lib.hid (HB15.out.trans (b16.mono HB15.out.size))
       clear b16 Ks2 hst q0 q1 HB15
       go_wp2_with fail
       go_roundw
       case rel => exact ⟨k + 1, by go_num, by omega, HN⟩
       case measure => simp only [intOf]; omega
     ·have hkn : k = nb := by omega
      subst hkn
      obtain ⟨Wd, hWd⟩ : ∃ X, X = wr := ⟨_, rfl⟩
      subst hWd
      have HD := Lib.hid hst.out
      clear hst
      go_wp2_with fail
      go_loopw [19] (fun q wq => ∃ j : Nat, q = .int .i64 j ∧ j ≤ ni ∧ Hid (Below Wb.heap.size Wb wq)) (fun q _ => ni - (intOf q).toNat)
      case atStart => exact ⟨0, rfl, by omega, HD⟩
      case round =>
       obtain ⟨j, rfl, hj, hst⟩ := hrel
       by_cases hlj : j < ni
       ·have f1 : (0 : Int) ≤ (j : Int) := by omega
        have f2 : (j : Int) < (ni : Int) := by omega
        obtain ⟨gi, oi, A4, c4, rfl, _, hgi, k0, k1, k2, k3⟩ := HR.out.2.2.2.1.at HR.out.2.2.2.2.1 hst.out hlj rfl
        obtain ⟨r, hrr⟩ : ∃ r, st.getD j r0 = r := ⟨_, rfl⟩
        have hmem : r ∈ st := by rw [← hrr]; exact getD_mem (by have := HR.out.2.2.2.2.1; omega)
        rw [hrr] at k0 k1 k2 k3
        obtain ⟨key, lv⟩ := r
        simp only at k0 k1 k2 k3
        have hgl : getF b key = lv := HT.out _ hmem
        obtain ⟨ml, hml⟩ : ∃ ml, lv.length = ml := ⟨_, rfl⟩
        rw [hml] at k1 k3
        have hs := hst.out.size
        have hgwr : gi < wr.heap.size := by omega
        have hC1 : ∀ X, Cells2 wr gi (oi + j * 2) (.string key) (.slice A4 ml c4) X → Calls Tryz.prog 38 #[.slice Ab k cb', .string key] X (fun e w' => ∃ A m c, e = .returned (.slice A m c) ∧ Hid ((getF b key).length = m ∧ m ≤ 140737488355328 ∧ Vs X 0 X.heap.size A (getF b key)) ∧ X = w') := fun X hX => get_up Ab cb' k b HR.out.2.2.2.2.2.2.1 (by omega) key X ((HR.out.2.2.1.below (hst.out.trans (hX.2.2.1.mono hs))).more (Nat.le_trans hs hX.2.2.1.size))
        have hC2 : ∀ X A m c, Cells2 wr gi (oi + j * 2) (.string key) (.slice A4 ml c4) X → Hid ((getF b key).length = m ∧ m ≤ 140737488355328 ∧ Vs X 0 X.heap.size A (getF b key)) → Calls Tryz.prog 39 #[.slice A m c, .slice A4 ml c4] X (fun e w' => e = .returned (.bool true) ∧ Below X.heap.size X w') := fun X A m c hX hh => by
         have h := ref_sameV_any A A4 c c4 m ml (getF b key) lv hh.out.1 hml X hh.out.2.2 (((k2.more hs).below hX.2.2.1).more hX.2.2.1.size) hh.out.2.1 k3.2.1
         rwa [decide_eq_true hgl] at h
        have HC := Lib.hid (And.intro hC1 hC2)
        have HS : Hid (Cells2 wr gi (oi + j * 2) (.string key) (.slice A4 ml c4) wr.drew) := Lib.hid ⟨k0, k1, (Below.refl _ _).drew, hgwr⟩
        have HN0 := Lib.hid hst.out
        clear hgl hml k2 k3 hrr hmem hs hC1 hC2 hst k0 k1
        go_wp2_with fail
        go_region_held3 (fun X => X.cell? ⟨gi, oi + j * 2, none⟩ = some (.string key) ∧ X.cell? ⟨gi, oi + j * 2 + 1, none⟩ = some (.slice A4 ml c4) ∧ Below wr.heap.size wr X ∧ gi < wr.heap.size)
         (first
          | exact HS.out
          | assumption
          | exact cells2_below (by assumption) (by assumption))
         (first
          | (go_at_call 38; refine (HC.out.1 _ (by assumption)).mono ?_; rintro e17 w17 ⟨A17, m17, c17, rfl, h17, hw17⟩; obtain rfl := hw17)
          | (go_at_call 39; refine (HC.out.2 _ _ _ _ (by assumption) h17).mono ?_; rintro e18 w18 ⟨rfl, b18⟩))
        all_goals
         have HN := Lib.hid (HN0.out.trans (((show Below wr.heap.size wr w18 from ((Below.refl _ wr).drew).trans b18)).mono HN0.out.size))
         clear b18
         go_wp2_with fail
         go_roundw
         case rel => exact ⟨j + 1, by go_num, by omega, HN⟩
         case measure => simp only [intOf]; omega
       ·have hjn : j = ni := by omega
        subst hjn
        have HF := Lib.hid (HR.out.1.trans (hst.out.mono HR.out.1.size))
        clear hst
        go_wp2_with fail
        go_ret
        exact ⟨rfl, HF.out⟩
   ·have HF := Lib.hid B4.out
    clear hdb b4 K3
    go_wp2_with fail
    go_ret
    exact ⟨rfl, HF.out⟩
  ·have HF := Lib.hid (B2.out.trans (b3.mono B2.out.size))
   clear b3 H3
   go_wp2_with fail
   go_ret
   exact ⟨rfl, HF.out⟩
 ·have B2 := Lib.hid (B1.out.trans (b2.mono B1.out.size))
  have H3 := Lib.hid (held_up A' c' n' cut HP.out.2.2.2.1 (by omega) w2 (HP.out.2.1 w2 B2.out))
  clear b2 H1 B1
  go_wp2_with fail
  refine H3.out.mono ?_
  rintro e3 w3 (⟨hok', Ab, nb, cb', rfl, h3, b3⟩ | ⟨hno', rfl, b3⟩)
  ·have HF := Lib.hid (B2.out.trans (b3.mono B2.out.size))
   clear h3 b3 H3
   go_wp2_with fail
   go_ret
   exact ⟨rfl, HF.out⟩
  ·have HF := Lib.hid (B2.out.trans (b3.mono B2.out.size))
   clear b3 H3
   go_wp2_with fail
   go_ret
   exact ⟨rfl, HF.out⟩
-- ROW BEGIN
set_option maxRecDepth 100000 in
theorem contract (H : Type) (enc : TypeId × Value → H) (W : World) (base : Nat) (args : Array Value) (ds gs : List (DataW H)) (before : List MemPlace)
  (hval : ∀ (j : Nat) t v, Tryz.f5.params[j]? = some t → args[j]? = some v → Value.okWide Tryz.prog W .any base t v)
  (hW : DataW.Whole enc Tryz.prog Tryz.f5.params.toList Rows.pullAllSpec.vars false W args.toList ds gs before)
  (hsz : (DataW.weightsEach Tryz.prog (Tryz.f5.params.toList ++ Rows.pullAllSpec.plain.varTypes Tryz.prog) (ds ++ gs)).all (· ≤ reachBytes) = true) :
  Calls Tryz.prog 5 args W fun e W' => ∃ v, e = .returned v ∧ Rows.pullAllSpec.post enc Tryz.prog Tryz.f5 false true false false W args v W' := by
 have hW' := hW
 obtain ⟨p, q, hA0, hV, hbef, _, _⟩ := hW
 have hA : DataW.TrodAll enc Tryz.prog W 0 (fun _ => true) true Tryz.f5.params.toList args.toList ds p := hA0
 have hA1 := hA
 rw [Tryz.params5] at hA hval hsz
 obtain ⟨v0, vs0, d0, ds0, p0, q0, hargs, rfl, rfl, h0, r0⟩ := trodAll_cons hA
 obtain ⟨v1, vs1, d1, ds1, p1, q1, rfl, rfl, rfl, h1, r1⟩ := trodAll_cons r0
 obtain ⟨v2, vs2, d2, ds2, p2, q2, rfl, rfl, rfl, h2, r2⟩ := trodAll_cons r1
 obtain ⟨rfl, rfl, rfl⟩ := trodAll_nil r2
 obtain rfl : args = #[v0, v1, v2] := by cases args; simp_all
 obtain ⟨rfl, rfl⟩ := trodVars_none hV
 clear hA hargs
 obtain ⟨A0, c0, a0, rfl, n0, l0, b0⟩ := Tree.arg_recs (hval 0 23 v0 rfl rfl) h0 (Vers.wt_arg hsz (j := 0) rfl rfl)
 obtain ⟨A1, c1, a1, rfl, n1, l1, b1⟩ := Tree.arg_recs (hval 1 23 v1 rfl rfl) h1 (Vers.wt_arg hsz (j := 1) rfl rfl)
 obtain ⟨A2, c2, a2, rfl, n2, w2, l2, _, o2⟩ := open_ns Tryz.underlying24 Tryz.underlying3 Facts.cells3 (hval 2 24 v2 rfl rfl) h2
 have b2 := reach_ns hsz (j := 2) rfl rfl Tryz.underlying24 Facts.bytes3 l2 o2
 refine (walk W A0 c0 a0 n0 b0 l0 A1 c1 a1 n1 b1 l1 A2 c2 a2 n2 (fun z hz => wf_int (w2 z hz)) (by omega) l2).mono fun e W' ⟨he, hb⟩ => ?_
 subst he
 exact ⟨_, rfl, law_post Facts.laid (by rfl) Tryz.underlying4 (by rw [Tryz.params5]; decide +kernel) hW' hA1 rfl hbef rfl rfl rfl hb⟩

set_option maxRecDepth 100000 in
theorem lifted (os : Os) (started : os.Started) (H : Type) (enc : TypeId × Value → H) :
  ReturnsInHanded {} Tryz.checked os 5 .any (Rows.pullAllSpec.pre6 enc Tryz.prog Tryz.f5 Rows.pullAllRow.domain false) (Rows.pullAllSpec.post enc Tryz.prog Tryz.f5 false true false false) := by
 refine returnsInHanded_of_change_sized (C := Tryz.checked) Facts.own started (by kernel_rfl) Tryz.func5
  (ChangeSpec.witness6 (enc := enc) (C := Tryz.checked) false ⟨#[], #[.slice none 0 0, .slice none 0 0, .slice none 0 0], []⟩ 8 (by kernel_rfl) (by kernel_rfl) (by kernel_rfl) (by kernel_rfl)) ?_
 intro W base args ds gs before hval hW _ hsz _
 exact contract H enc W base args ds gs before hval hW hsz

theorem holds : Rows.PullAllSaid :=
 OpenClaim.holds_of_wide 5 Tryz.f5 rfl rfl rfl rfl rfl rfl rfl ⟨rfl, rfl, rfl, rfl, rfl⟩ rfl rfl rfl rfl rfl (by kernel_rfl) Tryz.func5 (by kernel_rfl)
  (of_decide_eq_true (by kernel_rfl)) (by unfold Func.isWrapper; first | (rw [if_pos (by decide +kernel)]; kernel_rfl) | (rw [if_neg (by decide +kernel)]; exact ⟨rfl, rfl⟩))
  (fun os started H enc _ => lifted os started H enc)
-- ROW END
end PullAll
end Go.Proofs.YtkfdplfgaddkmaaGreat
