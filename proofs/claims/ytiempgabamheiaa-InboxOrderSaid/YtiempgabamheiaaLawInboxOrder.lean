/-
  InboxOrder (P18.3): whatever comes in whatever order, what an inbox hands on comes behind all that it came behind, each once. For every input.
-/
import Derived.Test.YtiempgabamheiaaInboxArgs
import Derived.Test.YtiempgabamheiaaInboxAwake
import Derived.Test.YtiempgabamheiaaGLook
import Derived.Test.YtiempgabamheiaaGBase
import Derived.Deep.DeepCutAuto
namespace Go.Proofs.Ytiempgabamheiaa
namespace InboxOrder
open Go.ChangeShapes Go.WideShapes Go.ChangeAt Go.RowKit Inbox Vers Span Blk
attribute [local go_sem ↓] Go.wp_at_zero Go.wp_at_succ
/-- What a write that may be done does to the vector. -/
theorem step {v : List Int} {s n : Int} (h : Vect.IsNext v s n) : Vect.bumpE v s n = 0 ∧ Vect.bumpL v s n = v.set (s - 1).toNat n ∧ ¬ Vect.CoversV v s n ∧ Vect.RightV (v.set (s - 1).toNat n) := by
  obtain ⟨h1, h2, h3, _, h5, h6⟩ := Vect.next_zero h
  obtain ⟨e1, e2⟩ := Vect.bump_yes h
  refine ⟨e1, e2, fun hc => ?_, by rw [List.length_set]; exact h1.1, by rw [List.length_set]; exact h1.2.1, fun z hz => ?_⟩
  · have := hc.2.2.2
    omega
  · rcases List.mem_or_eq_of_mem_set hz with hz | rfl
    · exact h1.2.2 z hz
    · have hk : (s - 1).toNat < v.length := by omega
      have := h1.2.2 (v.getD (s - 1).toNat 0) (by rw [List.getD_eq_getElem?_getD, List.getElem?_eq_getElem hk]; exact List.getElem_mem _)
      omega
/-- What the last loop asks. -/
theorem ask {v : List Int} {s n d1 d2 E : Int} {q : Bool} {l : List Sp} (hQ : Vect.nextV v s = (d1, d2, E)) (hq : decide (Vect.HoldsV v l) = q) (h : ¬ (Vect.IsNext v s n ∧ Vect.HoldsV v l)) : E ≠ 0 ∨ (E = 0 ∧ d1 = s ∧ d2 ≠ n) ∨ (E = 0 ∧ d1 = s ∧ d2 = n ∧ q = false) := by
  by_cases hE : E = 0
  · have h1 := Vect.next_fst hQ hE
    by_cases h2 : d2 = n
    · refine .inr (.inr ⟨hE, h1, h2, ?_⟩)
      rw [← hq]
      refine decide_eq_false fun hh => h ⟨?_, hh⟩
      show Vect.nextV v s = (s, n, 0)
      rw [hQ, hE, h1, h2]
    · exact .inr (.inl ⟨hE, h1, h2⟩)
  · exact .inl hE

set_option maxRecDepth 100000 in
set_option maxHeartbeats 8000000 in
theorem walk (w : World) (A : Option Addr) (c : Nat) (l : List Fr) (hq : Fs w w.heap.size A l) (hb80 : l.length * 80 ≤ 140737488351232) (_hlc : l.length ≤ c)
    (As : Option Addr) (cs : Nat) (vs : List Int) (hvs : Ns .i64 w w.heap.size As vs) (_hwf : ∀ z ∈ vs, -9223372036854775808 ≤ z ∧ z ≤ 9223372036854775807) (hbig : vs.length * 8 ≤ 140737488351232) (_hlcs : vs.length ≤ cs)
    (Ab : Option Addr) (cb : Nat) (bs : List Int) (hbs : Ns .u8 w w.heap.size Ab bs) (hbw : ∀ z ∈ bs, 0 ≤ z ∧ z ≤ 255) (hbbig : bs.length ≤ 140737488355328) (_hlcb : bs.length ≤ cb) :
    Calls Try.prog 4 #[.slice A l.length c, .slice As vs.length cs, .slice Ab bs.length cb] w fun e w' => e = .returned (.bool true) ∧ Below w.heap.size w w' := by
  obtain ⟨n, hn⟩ : ∃ n, l.length = n := ⟨_, rfl⟩
  obtain ⟨ns, hns⟩ : ∃ n, vs.length = n := ⟨_, rfl⟩
  obtain ⟨nb0, hnb0⟩ : ∃ n, bs.length = n := ⟨_, rfl⟩
  rw [hn] at hb80
  rw [hns] at hbig
  rw [hnb0] at hbbig
  rw [hn, hns, hnb0]
  have HAW := Lib.hid (fun W => awake_any W)
  have HZ := Lib.hid (And.intro hq (And.intro hn (And.intro hvs (And.intro hns (And.intro hbs (And.intro hnb0 hbw))))))
  have HRI := Lib.hid (fun W h => Vect.ref_right_v As cs ns vs hns W h (by omega))
  clear hq hn hvs hns hbs hnb0 hbw _hlc _hlcs _hlcb _hwf
  by_cases hrv : Vect.RightV vs
  · have HRI2 : Hid (∀ W, Ns .i64 W W.heap.size As vs → Calls Try.prog 20 #[.slice As ns cs] W fun e w' => e = .returned (.bool true) ∧ Below W.heap.size W w') := Lib.hid fun W h => by
      have := HRI.out W h
      rwa [decide_eq_true hrv] at this
    have HRV := Lib.hid hrv
    have e4 : max (n : Int) 0 = (n : Int) := by omega
    have HE4 := Lib.hid e4
    clear HRI hrv e4
    go_enter Try.func4, Try.ntmps4
    go_wp2_with fail
    refine (HAW.out w).mono ?_
    rintro e w1 ⟨rfl, b1⟩
    go_wp2_with fail
    refine (HRI2.out w1 ((HZ.out.2.2.1.below b1).more b1.size)).mono ?_
    rintro e w1' ⟨rfl, b1'⟩
    have b2 := b1.trans (b1'.mono b1.size)
    have HNW := Lib.hid (Sit.new (n : Int) b2)
    have HB2 := Lib.hid b2
    clear b1 b1' b2 HAW HRI2
    go_wp2_with fail
    refine HNW.out.mono ?_
    rintro e w2 ⟨nb, rfl, h2⟩
    rw [HE4.out] at h2
    have hst2 : Sit (At ns As) w nb (n : Int) [] w2 := h2.out.1.less fun j hj => by
      have := HB2.out.size
      obtain ⟨h0, a, ha, hb⟩ := hj
      obtain ⟨b, off, e, hb', _⟩ := HZ.out.2.2.1 (by have := HZ.out.2.2.2.1; omega)
      rw [e] at ha
      injection ha with ha
      subst ha
      simp only at hb
      omega
    have hns2 : Ns .i64 w2 w2.heap.size As vs := (HZ.out.2.2.1.below (HB2.out.trans (h2.out.2.mono HB2.out.size))).more (Nat.le_trans HB2.out.size h2.out.2.size)
    have HST := Lib.hid (And.intro hst2 (And.intro hns2 (And.intro HZ.out.2.2.2.1 HRV.out)))
    clear h2 HNW hst2 hns2 HRV HE4 HB2
    go_wp2_with fail
    go_loopw [8, 9, 10, 11, 12, 13, 14, 15] (fun qv q _ _ _ _ _ _ wr => ∃ (k nv cv : Nat) (Av : Option Addr) (v : List Int) (P : List Fr), q = .int .i64 k ∧ qv = .slice Av nv cv ∧ k ≤ n ∧ P.length ≤ k ∧ nv ≤ 16 ∧ Hid (Sit (At nv Av) w nb (n : Int) P wr ∧ Ns .i64 wr wr.heap.size Av v ∧ v.length = nv ∧ Vect.RightV v) ∧ Hid ((∀ y ∈ P, okF y) ∧ (k = n → ∀ y ∈ P, ¬ mayF v y))) (fun _ q _ _ _ _ _ _ _ => n - (intOf q).toNat)
    case atStart => exact ⟨0, ns, cs, As, vs, [], rfl, rfl, by omega, by simp, by have := HST.out.2.2.2.2.1; have := HST.out.2.2.1; omega, HST, Lib.hid ⟨by simp, by simp⟩⟩
    case round =>
      clear HST
      obtain ⟨k, nv, cv, Av, v, P, rfl, rfl, hk, hPk, hnv, hst, hP⟩ := hrel
      by_cases hlt : k < n
      · obtain ⟨x, hx⟩ : ∃ x, l[k]? = some x := ⟨l[k]'(by have := HZ.out.2.1; omega), by simp⟩
        obtain ⟨b, off, rfl, hbl, hat⟩ := HZ.out.1 (by have := HZ.out.2.1; omega)
        obtain ⟨⟨a1, c1⟩, ⟨a2, c2⟩, hcl, hvx, hrx, hsz, hcx⟩ := hat k x hx
        obtain ⟨⟨f1, f2⟩, ⟨k1, v1⟩, rr⟩ := x
        obtain ⟨m1, hm1⟩ : ∃ r, v1.length = r := ⟨_, rfl⟩
        obtain ⟨r1, hr1⟩ : ∃ r, rr.length = r := ⟨_, rfl⟩
        have hold := hst.out.1.old
        have d1 : (0 : Int) ≤ (k : Int) := by omega
        have d2 : (k : Int) < (n : Int) := by omega
        obtain ⟨⟨a, P2⟩, hF⟩ : ∃ q, takeF (n : Int) P v ((f1, f2), (k1, v1), rr) = q := ⟨_, rfl⟩
        have hok2 := take_ok hP.out.1 hF
        have hl2 := Inbox.take_len hF
        have hcell : ∀ r u, (fc (((f1, f2), (k1, v1), rr), (a1, c1), (a2, c2)))[r]? = some u → wr.cell? ⟨b, off + k * 5 + r, none⟩ = some u := fun r u hu => (hold.cell (p := ⟨b, off + k * 5 + r, none⟩) hbl).trans (hcl r u hu)
        have q0 : wr.cell? ⟨b, off + k * 5, none⟩ = some (.int .i64 f1) := hcell 0 _ rfl
        have q1 : wr.cell? ⟨b, off + k * 5 + 1, none⟩ = some (.int .i64 f2) := hcell 1 _ rfl
        have q2 : wr.cell? ⟨b, off + k * 5 + 2, none⟩ = some (.string k1) := hcell 2 _ rfl
        have q3 : wr.cell? ⟨b, off + k * 5 + 3, none⟩ = some (.slice a1 m1 c1) := by rw [← hm1]; exact hcell 3 _ rfl
        have q4 : wr.cell? ⟨b, off + k * 5 + 4, none⟩ = some (.slice a2 r1 c2) := by rw [← hr1]; exact hcell 4 _ rfl
        have HP := Lib.hid (hst.out.1.take hP.out.1 (by omega) f1 f2 k1 a1 c1 m1 v1 hm1 a2 c2 r1 rr hr1 hsz ((hvx.below hold).more hold.size) ((hrx.below hold).more hold.size) Av cv nv v hst.out.2.2.1 (by omega) hst.out.2.1 hF)
        have HO2 := Lib.hid (And.intro hok2 (And.intro (show P2.length ≤ k + 1 by omega) hst.out.2))
        clear hx hat hcl hvx hrx hsz hcx hm1 hr1 hold hF hst hok2 hl2 hcell hPk hP
        go_wp2_with fail
        refine HP.out.mono ?_
        rintro e w5 ⟨rfl, h5⟩
        have HS5 := Lib.hid (And.intro h5.out.1 (And.intro (h5.out.2.ns HO2.out.2.2.2.1 (fun j hj => hj) HO2.out.2.2.1) (And.intro HO2.out.2.2.2.1 (And.intro HO2.out.2.2.2.2 (And.intro HO2.out.1 (And.intro HO2.out.2.1 h5.out.1.old))))))
        clear h5 HP q0 q1 q2 q3 q4 HO2
        go_upto_if 49 with fail
        go_cut [10] (fun q V => ∃ m : Nat, q = .int .i64 m ∧ m ≤ 3 ∧ V = w5)
        case first =>
          by_cases hkb : k < nb0
          · obtain ⟨bb, bo, rfl, hbl2, hat2⟩ := HZ.out.2.2.2.2.1 (by have := HZ.out.2.2.2.2.2.1; omega)
            have z0 := hat2 k (by have := HZ.out.2.2.2.2.2.1; omega)
            obtain ⟨z, hz⟩ : ∃ z, bs.getD k 0 = z := ⟨_, rfl⟩
            have hzz : 0 ≤ z ∧ z ≤ 255 := by
              have hk' : k < bs.length := by have := HZ.out.2.2.2.2.2.1; omega
              rw [← hz, List.getD_eq_getElem?_getD, List.getElem?_eq_getElem hk']
              exact HZ.out.2.2.2.2.2.2 _ (List.getElem_mem _)
            rw [hz] at z0
            have z1 := (HS5.out.2.2.2.2.2.2.cell (p := ⟨bb, bo + k, none⟩) hbl2).trans z0
            obtain ⟨ro, rfl⟩ : ∃ r : Nat, z = (r : Int) := ⟨z.toNat, by omega⟩
            obtain ⟨r, hr⟩ : ∃ r, ro % 4 = r := ⟨_, rfl⟩
            have hr8 : r < 4 := by omega
            have e1 : (ro : Int).tmod 4 = (r : Int) := by rw [Int.tmod_eq_emod_of_nonneg (by omega)]; omega
            have e2 : IntKind.u8.wrap (r : Int) = (r : Int) := by rw [IntKind.wrap_u8]; omega
            have e3 : IntKind.i64.wrap (r : Int) = (r : Int) := IntWalk.i64_in _ (by omega)
            have d3 : (k : Int) < (nb0 : Int) := by omega
            clear hz hat2 z0 hr
            go_wp2_with fail
            go_meet
            exact ⟨r, rfl, by omega, rfl⟩
          · have d3 : ¬ (k : Int) < (nb0 : Int) := by omega
            go_wp2_with fail
            go_meet
            exact ⟨1, rfl, by omega, rfl⟩
        case rest =>
          obtain ⟨m0, rfl, hm0, hw⟩ := hcut
          have hw' := hw.symm
          subst hw'
          go_upto_if 60 with fail
          go_cut [10] (fun q V => ∃ m : Nat, q = .int .i64 m ∧ m ≤ n + 3 ∧ (k + 1 = n → m = n + 1) ∧ V = w5)
          case first =>
            have e1 : IntKind.i64.wrap ((n : Int) - 1) = (n : Int) - 1 := IntWalk.i64_in _ (by omega)
            have e2 : IntKind.i64.wrap ((n : Int) + 1) = (n : Int) + 1 := IntWalk.i64_in _ (by omega)
            by_cases hl : k + 1 = n
            · have d3 : ((k : Int) == (n : Int) - 1) = true := by simp; omega
              go_wp2_with fail
              go_meet
              exact ⟨n + 1, rfl, by omega, fun _ => rfl, rfl⟩
            · have d3 : ((k : Int) == (n : Int) - 1) = false := by simp; omega
              go_wp2_with fail
              go_meet
              exact ⟨m0, rfl, by omega, fun h => absurd h hl, rfl⟩
          case rest =>
            obtain ⟨m, rfl, hm, hml, hw⟩ := hcut
            have hw' := hw.symm
            subst hw'
            clear hm0
            go_wp2_with fail
            go_loopw [8, 10, 11, 12, 13, 14, 15] (fun qv q _ _ _ _ _ wr => ∃ (m nv cv : Nat) (Av : Option Addr) (v : List Int) (P : List Fr), q = .int .i64 m ∧ qv = .slice Av nv cv ∧ m ≤ n + 3 ∧ P.length ≤ k + 1 ∧ nv ≤ 16 ∧ (k + 1 = n → P.length < m) ∧ Hid (Sit (At nv Av) w nb (n : Int) P wr ∧ Ns .i64 wr wr.heap.size Av v ∧ v.length = nv ∧ Vect.RightV v) ∧ Hid (∀ y ∈ P, okF y)) (fun _ q _ _ _ _ _ _ => (intOf q).toNat)
            case atStart => exact ⟨m, nv, cv, Av, v, P2, rfl, rfl, hm, HS5.out.2.2.2.2.2.1, hnv, fun h => by have := HS5.out.2.2.2.2.2.1; have := hml h; omega, Lib.hid ⟨HS5.out.1, HS5.out.2.1, HS5.out.2.2.1, HS5.out.2.2.2.1⟩, Lib.hid HS5.out.2.2.2.2.1⟩
            case round =>
              clear HS5 hm hml hnv
              obtain ⟨m, nv, cv, Av, v, P, rfl, rfl, hm, hPk, hnv, hml, hst, hP⟩ := hrel
              by_cases hm0 : 0 < m
              · rcases ready_is (fun x => decide (mayF v x)) P with ⟨hF, hno⟩ | ⟨i, x, hi, hpx, _, hF⟩
                · have HP := Lib.hid (hst.out.1.ready0 hP.out (by omega) Av cv nv v hst.out.2.2.1 (by omega) hst.out.2.1 hF)
                  have HN := Lib.hid (And.intro hP.out (fun (_ : k + 1 = n) y hy => of_decide_eq_false (hno y hy)))
                  clear hF hno
                  have d3 : (0 : Int) < (m : Int) := by omega
                  go_wp2_with fail
                  refine HP.out.mono ?_
                  rintro e w6 ⟨rfl, h6⟩
                  obtain ⟨W7, hW7⟩ : ∃ W, w6.alloc (.cells #[.int .i64 0, .int .i64 0, .string ⟨#[]⟩, .slice none 0 0, .slice none 0 0] 35) = W := ⟨_, rfl⟩
                  have b7 : Below w6.heap.size w6 W7 := by rw [← hW7]; exact (Below.refl _ w6).alloc (Nat.le_refl _) _
                  have HN7 : Hid (Sit (At nv Av) w nb (n : Int) P W7 ∧ Ns .i64 W7 W7.heap.size Av v ∧ v.length = nv ∧ Vect.RightV v) := Lib.hid ⟨h6.out.1.below b7, ((h6.out.2.ns hst.out.2.2.1 (fun j hj => hj) hst.out.2.1).below b7).more b7.size, hst.out.2.2.1, hst.out.2.2.2⟩
                  have HW7 := Lib.hid hW7
                  clear h6 hW7 b7 hst HP hP
                  go_upto_region 17 with fail
                  rw [HW7.out]
                  go_wp2_with fail
                  go_roundw
                  case rel => exact ⟨k + 1, nv, cv, Av, v, P, rfl, rfl, by omega, hPk, hnv, HN7, HN⟩
                  case measure => simp only [intOf]; omega
                · obtain ⟨P3, hP3⟩ : ∃ Q, P.eraseIdx i = Q := ⟨_, rfl⟩
                  rw [hP3] at hF
                  have hil : i < P.length := (List.getElem?_eq_some_iff.1 hi).1
                  have hPl : P3.length = P.length - 1 := by rw [← hP3, List.length_eraseIdx_of_lt hil]
                  have hP3o : ∀ y ∈ P3, okF y := fun y hy => hP.out y (List.mem_of_mem_eraseIdx (by rw [← hP3] at hy; exact hy))
                  have hxo := hP.out x (List.mem_of_getElem? hi)
                  have hmay : mayF v x := of_decide_eq_true hpx
                  have HP := Lib.hid (hst.out.1.ready hP.out (by omega) Av cv nv v hst.out.2.2.1 (by omega) hst.out.2.1 hF)
                  obtain ⟨m', rfl⟩ : ∃ m', m = m' + 1 := ⟨m - 1, by omega⟩
                  have hPk3 : P3.length ≤ k + 1 := by omega
                  have hml3 : k + 1 = n → P3.length < m' := fun h => by have := hml h; omega
                  have hm3 : m' ≤ n + 3 := by omega
                  have HPO := Lib.hid hP3o
                  obtain ⟨hl1, hokv⟩ := ok_one (a := x.1) (key := x.2.1.1) (lv := x.2.1.2) (rt := x.2.2) hxo
                  clear hF hi hpx hP3 hil hPl hP3o hxo hml hm hPk hm0 hP
                  have d3 : (0 : Int) < (m' : Int) + 1 := by omega
                  go_wp2_with fail
                  refine HP.out.mono ?_
                  rintro e w6 ⟨a1, c1, a2, c2, kr, rfl, h6⟩
                  obtain ⟨⟨hs6, hk6⟩, hkr, _, _, hsz, hvx, hrx, hc1⟩ := h6.out
                  obtain ⟨⟨g1, g2⟩, ⟨kx, lx⟩, rx⟩ := x
                  simp only at hl1 hokv hkr hvx hrx
                  obtain ⟨yv, hy⟩ : ∃ y, lx.getD 0 v0 = y := ⟨_, rfl⟩
                  obtain ⟨b2, o2, Ap, cp, rfl, _, hbB, x0, x1, x2, _, _, hpa⟩ := hvx.at hl1 (Below.refl _ w6) (by omega : 0 < 1) hy
                  have hmv : Vect.IsNext v yv.s yv.n ∧ Vect.HoldsV v yv.past := by
                    have h : mayF v ((g1, g2), (kx, lx), rx) := hmay
                    unfold mayF vr at h
                    simp only [hy] at h
                    exact h
                  rw [hy] at hokv
                  obtain ⟨s, vn, vp, vg, vx⟩ := yv
                  simp only at x0 x1 x2 hmv
                  rw [Nat.zero_mul, Nat.add_zero] at x0 x1 x2
                  obtain ⟨kp, hkp⟩ : ∃ k, vp.length = k := ⟨_, rfl⟩
                  rw [hkp] at x2
                  obtain ⟨e1, e2, hnc, hrv3⟩ := step hmv.1
                  obtain ⟨Z, hZ⟩ : ∃ Z, v.set (s - 1).toNat vn = Z := ⟨_, rfl⟩
                  rw [hZ] at e2 hrv3
                  have hZl : Z.length = nv := by rw [← hZ, List.length_set]; exact hst.out.2.2.1
                  have hsb : -9223372036854775808 ≤ s ∧ s ≤ 9223372036854775807 := by have := hokv.1; unfold okD at this; simp only at this; omega
                  obtain ⟨W7, hW7⟩ : ∃ W, w6.alloc (.cells #[.int .i64 g1, .int .i64 g2, .string kx, .slice (some ⟨b2, o2, none⟩) 1 c1, .slice a2 kr c2] 35) = W := ⟨_, rfl⟩
                  have b7 : Below w6.heap.size w6 W7 := by rw [← hW7]; exact (Below.refl _ w6).alloc (Nat.le_refl _) _
                  have s7 : W7.heap.size = w6.heap.size + 1 := by rw [← hW7]; simp
                  have B7 : Bn w6.heap.size 35 [.int .i64 g1, .int .i64 g2, .string kx, .slice (some ⟨b2, o2, none⟩) 1 c1, .slice a2 kr c2] W7 := by rw [← hW7]; exact heap_alloc_new w6 _
                  obtain ⟨W8, hW8⟩ : ∃ W, W7.alloc (.cells #[.int .i64 s, .int .i64 vn] 56) = W := ⟨_, rfl⟩
                  have b8 : Below W7.heap.size W7 W8 := by rw [← hW8]; exact (Below.refl _ W7).alloc (Nat.le_refl _) _
                  have B8 : Bn W7.heap.size 56 [.int .i64 s, .int .i64 vn] W8 := by rw [← hW8]; exact heap_alloc_new W7 _
                  have b68 : Below w6.heap.size w6 W8 := b7.trans (b8.mono b7.size)
                  obtain ⟨fb, hfb⟩ : ∃ k, w6.heap.size = k := ⟨_, rfl⟩
                  obtain ⟨db, hdb⟩ : ∃ k, W7.heap.size = k := ⟨_, rfl⟩
                  have hn6 := hk6.ns hst.out.2.2.1 (fun j hj => hj) hst.out.2.1
                  have HC7 : Hid (W7.cell? ⟨fb, 3, none⟩ = some (.slice (some ⟨b2, o2, none⟩) 1 c1) ∧ W7.cell? ⟨b2, o2, none⟩ = some (.int .i64 s) ∧ W7.cell? ⟨b2, o2 + 1, none⟩ = some (.int .i64 vn)) := Lib.hid ⟨by rw [← hfb]; exact (B7.cell 3).trans rfl, (b7.cell (p := ⟨b2, o2, none⟩) hbB).trans x0, (b7.cell (p := ⟨b2, o2 + 1, none⟩) hbB).trans x1⟩
                  have HC8 : Hid (∀ V, Below W8.heap.size W8 V → V.cell? ⟨fb, 3, none⟩ = some (.slice (some ⟨b2, o2, none⟩) 1 c1) ∧ V.cell? ⟨b2, o2 + 2, none⟩ = some (.slice Ap kp cp) ∧ V.cell? ⟨db, 0, none⟩ = some (.int .i64 s) ∧ V.cell? ⟨db, 1, none⟩ = some (.int .i64 vn)) := Lib.hid fun V hV => by
                    have B8' := B8.same (hV.block _ B8.lt)
                    have B7' := (B7.same (b8.block _ B7.lt)).same (hV.block _ (Nat.lt_of_lt_of_le B7.lt b8.size))
                    rw [hdb] at B8'
                    rw [hfb] at B7'
                    exact ⟨(B7'.cell 3).trans rfl, ((b68.trans (hV.mono b68.size)).cell (p := ⟨b2, o2 + 2, none⟩) hbB).trans x2, (B8'.cell 0).trans rfl, (B8'.cell 1).trans rfl⟩
                  have HBP : Hid (Calls Try.prog 21 #[.slice Av nv cv, .agg #[.int .i64 s, .int .i64 vn]] W8 (fun e w' => ∃ A9 c9, e = .returned (.tuple #[.slice A9 nv c9, .int .i64 0]) ∧ Hid (w'.ownsRow W8.heap.size 2 1 (.slice A9 nv c9) nv (nums .i64 Z) ∧ Below W8.heap.size W8 w'))) := Lib.hid ((Vect.ref_bump_any Av cv nv v hst.out.2.2.1 s vn hsb W8 ((hn6.below b68).more b68.size) (by omega)).mono fun e w' hp => by
                    rw [e1, e2] at hp
                    unfold Vect.VJPost at hp
                    rw [hZl] at hp
                    obtain ⟨A9, c9, g1, g2, g3⟩ := hp
                    exact ⟨A9, c9, g1, Lib.hid ⟨g2, g3⟩⟩)
                  have HHO : Hid (∀ V, Below W8.heap.size W8 V → Calls Try.prog 22 #[.slice Av nv cv, .slice Ap kp cp] V (fun e w' => e = .returned (.bool true) ∧ Below V.heap.size V w')) := Lib.hid fun V hV => by
                    have bV := b68.trans (hV.mono b68.size)
                    have h := Vect.ref_holds_any Av Ap cv cp nv kp v vp hst.out.2.2.1 hkp (fun x hx => by have := hokv.2.1.2.1 x hx; unfold okSp at this; omega) V ((hn6.below bV).more bV.size) ((hpa.1.below bV).more bV.size) (by omega) (by have := hpa.2.2.1; simp only at this; omega)
                    rwa [decide_eq_true hmv.2] at h
                  have HCO : Hid (∀ V, Below W8.heap.size W8 V → Calls Try.prog 23 #[.slice Av nv cv, .agg #[.int .i64 s, .int .i64 vn]] V (fun e w' => e = .returned (.bool false) ∧ Below V.heap.size V w')) := Lib.hid fun V hV => by
                    have bV := b68.trans (hV.mono b68.size)
                    have h := Vect.ref_covers_any Av cv nv v hst.out.2.2.1 s vn hsb V ((hn6.below bV).more bV.size) (by omega)
                    rwa [decide_eq_false hnc] at h
                  have HS8 : Hid (Sit (fun j => w6.heap.size ≤ j ∧ j < W8.heap.size) w nb (n : Int) P3 W8) := Lib.hid ((hs6.hold b68).less fun j hj => .inr (.inl hj))
                  have HW := Lib.hid (And.intro hW7 (And.intro hW8 (And.intro hfb hdb)))
                  have HZ3 := Lib.hid (And.intro hZl hrv3)
                  have e0 : IntKind.i64.wrap (m' : Int) = (m' : Int) := IntWalk.i64_in _ (by omega)
                  clear h6 hW7 b7 s7 B7 hW8 b8 B8 b68 hfb hdb hn6 hZ hZl hrv3 hnc e1 e2 hsb hkp hpa hbB x0 x1 x2 hmv hmay hokv hl1 hy hvx hrx hsz hkr hs6 hk6 hst HP
                  obtain ⟨y3, y0, y1⟩ := HC7.out
                  go_upto_region 18 with fail
                  rw [HW.out.1, HW.out.2.2.1]
                  go_upto_region 19 with fail
                  rw [HW.out.2.1, HW.out.2.2.2]
                  clear y0 y1 y3 HC7
                  obtain ⟨y3, y2, y0, y1⟩ := HC8.out W8 (Below.refl _ _)
                  go_wp2_with fail
                  refine HBP.out.mono ?_
                  rintro e w9 ⟨A9, c9, rfl, h9⟩
                  clear y3 y2 y0 y1
                  obtain ⟨y3, y2, y0, y1⟩ := HC8.out w9 h9.out.2
                  have HHO9 := Lib.hid (HHO.out w9 h9.out.2)
                  go_wp2_with fail
                  refine HHO9.out.mono ?_
                  rintro e w10 ⟨rfl, b10⟩
                  have hb10 := h9.out.2.trans (b10.mono h9.out.2.size)
                  clear y3 y2 y0 y1
                  obtain ⟨y3, y2, y0, y1⟩ := HC8.out w10 hb10
                  have HCO10 := Lib.hid (HCO.out w10 hb10)
                  have HB10 := Lib.hid (And.intro b10 hb10)
                  clear b10 hb10 HHO9 HHO HCO HBP
                  go_wp2_with fail
                  refine HCO10.out.mono ?_
                  rintro e w11 ⟨rfl, b11⟩
                  have hb9 := HB10.out.1.trans (b11.mono HB10.out.1.size)
                  have hb11 := HB10.out.2.trans (b11.mono HB10.out.2.size)
                  have HN : Hid (Sit (At nv A9) w nb (n : Int) P3 w11 ∧ Ns .i64 w11 w11.heap.size A9 Z ∧ Z.length = nv ∧ Vect.RightV Z) := Lib.hid ⟨(HS8.out.hold hb11).less fun j hj => by
                      obtain ⟨h0, a, rfl, rfl⟩ := hj
                      have hlt := h9.out.1.lt a.block (by
                        rcases h9.out.1.form h0 with ⟨g, cap, e, _, _⟩
                        injection e with e _ _
                        injection e with e
                        rw [e]
                        rfl)
                      have := hb9.size
                      exact .inr (.inl ⟨hlt.1, by omega⟩),
                    ((own_ns (zs := Z) (by have h := h9.out.1; rw [← HZ3.out.1] at h; exact h)).below hb9).more hb9.size, HZ3.out.1, HZ3.out.2⟩
                  clear b11 hb9 hb11 HB10 h9 HS8 HZ3 HCO10 HC8 y0 y1 y2 y3 HW
                  go_wp2_with fail
                  go_roundw
                  case rel => exact ⟨m', nv, c9, A9, Z, P3, rfl, rfl, hm3, hPk3, hnv, hml3, HN, HPO⟩
                  case measure => simp only [intOf]; omega
              · obtain rfl : m = 0 := by omega
                have HN : Hid ((∀ y ∈ P, okF y) ∧ (k + 1 = n → ∀ y ∈ P, ¬ mayF v y)) := Lib.hid ⟨hP.out, fun h => by have := hml h; omega⟩
                clear hP hml
                go_wp2_with fail
                go_roundw
                case rel => exact ⟨k + 1, nv, cv, Av, v, P, rfl, rfl, by omega, hPk, hnv, hst, HN⟩
                case measure => simp only [intOf]; omega
      · obtain rfl : k = n := by omega
        clear hlt
        obtain ⟨kp, hkp⟩ : ∃ r, P.length = r := ⟨_, rfl⟩
        have HWA := Lib.hid (hst.out.1.waits hP.out.1 (by omega) kp hkp)
        have HV := Lib.hid (And.intro hst.out.2.1 (And.intro hst.out.2.2.1 (And.intro hP.out.1 (And.intro (hP.out.2 rfl) (And.intro hkp hst.out.1.old)))))
        have hkpb : kp ≤ k := by omega
        clear hst hP hkp hPk
        go_wp2_with fail
        refine HWA.out.mono ?_
        rintro e w7 ⟨A7, c7, rfl, h7⟩
        have HS7 := Lib.hid (And.intro h7.out.1 (And.intro ((HV.out.1.below h7.out.2.1).more h7.out.2.1.size) h7.out.2.2.old))
        clear h7 HWA
        go_wp2_with fail
        go_loopw [17, 18, 19, 20] (fun q _ _ _ wr => ∃ j : Nat, q = .int .i64 j ∧ j ≤ kp ∧ Hid (Below w7.heap.size w7 wr)) (fun q _ _ _ _ => kp - (intOf q).toNat)
        case atStart => exact ⟨0, rfl, by omega, Lib.hid (Below.refl _ _)⟩
        case round =>
          obtain ⟨j, rfl, hj, hbw⟩ := hrel
          by_cases hlt2 : j < kp
          · obtain ⟨y, hy⟩ : ∃ x, P[j]? = some x := ⟨P[j]'(by have := HV.out.2.2.2.2.1; omega), by simp⟩
            have hym := List.mem_of_getElem? hy
            have hyo := HV.out.2.2.1 y hym
            have hnm := HV.out.2.2.2.1 y hym
            obtain ⟨b2, off2, rfl, hbl2, hat2⟩ := HS7.out.1 (by have := HV.out.2.2.2.2.1; omega)
            obtain ⟨⟨a3, c3⟩, ⟨a5, c5⟩, hcl, hvy, _, _, hcy⟩ := hat2 j y hy
            obtain ⟨⟨g1, g2⟩, ⟨kx, lx⟩, rx⟩ := y
            obtain ⟨hl1, hokv⟩ := ok_one hyo
            simp only at hvy hcy hcl
            obtain ⟨yv, hyv⟩ : ∃ y, lx.getD 0 v0 = y := ⟨_, rfl⟩
            obtain ⟨b4, o4, Ap, cp, rfl, _, hbB, x0, x1, x2, x3, x4, hpa⟩ := hvy.at hl1 hbw.out (by omega : 0 < 1) hyv
            have hmv : ¬ (Vect.IsNext v yv.s yv.n ∧ Vect.HoldsV v yv.past) := by
              have h : ¬ mayF v ((g1, g2), (kx, lx), rx) := hnm
              unfold mayF vr at h
              simp only [hyv] at h
              exact h
            rw [hyv] at hokv
            obtain ⟨s, vn, vp, vg, vx⟩ := yv
            simp only at x0 x1 x2 x3 x4 hmv
            rw [Nat.zero_mul, Nat.add_zero] at x0 x1 x2 x3 x4
            obtain ⟨kq, hkq⟩ : ∃ k, vp.length = k := ⟨_, rfl⟩
            rw [hkq] at x2
            have hsb : -9223372036854775808 ≤ s ∧ s ≤ 9223372036854775807 := by have := hokv.1; unfold okD at this; simp only at this; omega
            have p3 : wr.cell? ⟨b2, off2 + j * 5 + 3, none⟩ = some (.slice (some ⟨b4, o4, none⟩) 1 c3) := by rw [← hl1]; exact (hbw.out.cell (p := ⟨b2, off2 + j * 5 + 3, none⟩) hbl2).trans (hcl 3 _ rfl)
            obtain ⟨⟨d1, d2, E⟩, hQ⟩ : ∃ Q, Vect.nextV v s = Q := ⟨_, rfl⟩
            obtain ⟨qh, hqh⟩ : ∃ q, decide (Vect.HoldsV v vp) = q := ⟨_, rfl⟩
            obtain ⟨qc, hqc⟩ : ∃ q, decide (Vect.CoversV v s vn) = q := ⟨_, rfl⟩
            have hask := ask hQ hqh hmv
            obtain ⟨W1, hW1⟩ : ∃ W, wr.alloc (.cells #[.int .i64 s, .int .i64 vn, .slice Ap kq cp, .bool vg, .string vx] 59) = W := ⟨_, rfl⟩
            have b1 : Below wr.heap.size wr W1 := by rw [← hW1]; exact (Below.refl _ wr).alloc (Nat.le_refl _) _
            have B1 : Bn wr.heap.size 59 [.int .i64 s, .int .i64 vn, .slice Ap kq cp, .bool vg, .string vx] W1 := by rw [← hW1]; exact heap_alloc_new wr _
            obtain ⟨vb, hvb⟩ : ∃ k, wr.heap.size = k := ⟨_, rfl⟩
            have hb1 : Below w7.heap.size w7 W1 := hbw.out.trans (b1.mono hbw.out.size)
            have u0 : W1.cell? ⟨vb, 0, none⟩ = some (.int .i64 s) := by rw [← hvb]; exact (B1.cell 0).trans rfl
            have HNX : Hid (Calls Try.prog 24 #[.slice Av nv cv, .int .i64 s] W1 (fun e w' => e = .returned (.tuple #[.agg #[.int .i64 d1, .int .i64 d2], .int .i64 E]) ∧ Below W1.heap.size W1 w')) := Lib.hid (by
              have h := Vect.ref_next_any Av cv nv v HV.out.2.1 s hsb W1 ((HS7.out.2.1.below hb1).more hb1.size) (by omega)
              rw [hQ] at h
              exact h)
            have HHO : Hid (∀ V, Below w7.heap.size w7 V → Below W1.heap.size W1 V → Calls Try.prog 22 #[.slice Av nv cv, .slice Ap kq cp] V (fun e w' => e = .returned (.bool qh) ∧ Below V.heap.size V w')) := Lib.hid fun V bV bV1 => by
              have h := Vect.ref_holds_any Av Ap cv cp nv kq v vp HV.out.2.1 hkq (fun x hx => by have := hokv.2.1.2.1 x hx; unfold okSp at this; omega) V ((HS7.out.2.1.below bV).more bV.size) ((hpa.1.below ((b1.mono hbw.out.size).trans (bV1.mono (Nat.le_trans hbw.out.size b1.size)))).more (by have := bV.size; omega)) (by omega) (by have := hpa.2.2.1; simp only at this; omega)
              rwa [hqh] at h
            have HCO : Hid (∀ V, Below w7.heap.size w7 V → Calls Try.prog 23 #[.slice Av nv cv, .agg #[.int .i64 s, .int .i64 vn]] V (fun e w' => e = .returned (.bool qc) ∧ Below V.heap.size V w')) := Lib.hid fun V bV => by
              have h := Vect.ref_covers_any Av cv nv v HV.out.2.1 s vn hsb V ((HS7.out.2.1.below bV).more bV.size) (by omega)
              rwa [hqc] at h
            have HI := Lib.hid (And.intro hW1 hvb)
            have HB1 := Lib.hid (And.intro hb1 b1)
            have HBN := Lib.hid B1
            have d3 : (0 : Int) ≤ (j : Int) := by omega
            have d4 : (j : Int) < (kp : Int) := by omega
            clear hW1 hvb b1 B1 hb1 hQ hqh hqc hsb hkq hpa hbB hmv hokv hl1 hyv hvy hcy hcl hat2 hbl2 hnm hyo hym hy
            go_upto_region 28 with fail
            rw [HI.out.1, HI.out.2]
            clear x0 x1 x2 x3 x4 p3
            go_wp2_with fail
            refine HNX.out.mono ?_
            rintro e w4 ⟨rfl, b4⟩
            obtain ⟨W2, hW2⟩ : ∃ W, w4.alloc (.cells #[.int .i64 d1, .int .i64 d2] 56) = W := ⟨_, rfl⟩
            have b5 : Below w4.heap.size w4 W2 := by rw [← hW2]; exact (Below.refl _ w4).alloc (Nat.le_refl _) _
            have B5 : Bn w4.heap.size 56 [.int .i64 d1, .int .i64 d2] W2 := by rw [← hW2]; exact heap_alloc_new w4 _
            obtain ⟨db, hdb⟩ : ∃ k, w4.heap.size = k := ⟨_, rfl⟩
            have b45 : Below W1.heap.size W1 W2 := b4.trans (b5.mono b4.size)
            have HC4 : Hid (∀ V, Below W2.heap.size W2 V → V.cell? ⟨vb, 0, none⟩ = some (.int .i64 s) ∧ V.cell? ⟨vb, 1, none⟩ = some (.int .i64 vn) ∧ V.cell? ⟨vb, 2, none⟩ = some (.slice Ap kq cp) ∧ V.cell? ⟨db, 0, none⟩ = some (.int .i64 d1) ∧ V.cell? ⟨db, 1, none⟩ = some (.int .i64 d2)) := Lib.hid fun V hV => by
              have g1 := (HBN.out.same (b45.block _ HBN.out.lt)).same (hV.block _ (Nat.lt_of_lt_of_le HBN.out.lt b45.size))
              have g2 := B5.same (hV.block _ B5.lt)
              rw [HI.out.2] at g1
              rw [hdb] at g2
              exact ⟨(g1.cell 0).trans rfl, (g1.cell 1).trans rfl, (g1.cell 2).trans rfl, (g2.cell 0).trans rfl, (g2.cell 1).trans rfl⟩
            have HB7 : Hid (Below w7.heap.size w7 W2) := Lib.hid (HB1.out.1.trans (b45.mono HB1.out.1.size))
            have HCR := Lib.hid (HCO.out W2 HB7.out)
            have HHR : Hid (∀ V, Below W2.heap.size W2 V → Calls Try.prog 22 #[.slice Av nv cv, .slice Ap kq cp] V (fun e w' => e = .returned (.bool qh) ∧ Below V.heap.size V w')) := Lib.hid fun V hV => HHO.out V (HB7.out.trans (hV.mono HB7.out.size)) (b45.trans (hV.mono b45.size))
            have HW2 := Lib.hid (And.intro hW2 hdb)
            clear hW2 hdb b4 b5 B5 b45 HNX HCO HHO u0
            go_upto_region 29 with fail
            rw [HW2.out.1, HW2.out.2]
            obtain ⟨y0, y1, y2, z0, z1⟩ := HC4.out W2 (Below.refl _ _)
            go_wp2_with fail
            refine HCR.out.mono ?_
            rintro e w5 ⟨rfl, b5⟩
            clear y0 y1 y2 z0 z1 HCR
            obtain ⟨y0, y1, y2, z0, z1⟩ := HC4.out w5 b5
            have HE := Lib.hid b5
            clear b5
            cases qc
            · rcases hask with hE | ⟨hE, hd1, hd2⟩ | ⟨hE, hd1, hd2, hqf⟩
              · have g1 : (E == 0) = false := by simp [hE]
                have g2 : decide (E = 0) = false := decide_eq_false hE
                go_wp2_with fail
                have HE' := Lib.hid (HB7.out.trans (HE.out.mono HB7.out.size))
                clear HE HB7 HC4 y0 y1 y2 z0 z1
                go_roundw
                case rel => exact ⟨j + 1, rfl, by omega, HE'⟩
                case measure => simp only [intOf]; omega
              · subst hE
                subst hd1
                have g1 : (d2 == vn) = false := by simp [hd2]
                have g2 : decide (d2 = vn) = false := decide_eq_false hd2
                go_wp2_with fail
                have HE' := Lib.hid (HB7.out.trans (HE.out.mono HB7.out.size))
                clear HE HB7 HC4 y0 y1 y2 z0 z1
                go_roundw
                case rel => exact ⟨j + 1, rfl, by omega, HE'⟩
                case measure => simp only [intOf]; omega
              · subst hE
                subst hd1
                subst hd2
                subst hqf
                have HH5 := Lib.hid (HHR.out w5 HE.out)
                go_wp2_with fail
                refine HH5.out.mono ?_
                rintro e w6 ⟨rfl, b6⟩
                have HE2 := Lib.hid (HE.out.trans (b6.mono HE.out.size))
                clear b6 HE
                go_wp2_with fail
                have HE' := Lib.hid (HB7.out.trans (HE2.out.mono HB7.out.size))
                clear HE2 HB7 HC4 y0 y1 y2 z0 z1
                go_roundw
                case rel => exact ⟨j + 1, rfl, by omega, HE'⟩
                case measure => simp only [intOf]; omega
            · clear hask
              go_wp2_with fail
              have HE' := Lib.hid (HB7.out.trans (HE.out.mono HB7.out.size))
              clear HE HB7 HC4 y0 y1 y2 z0 z1
              go_roundw
              case rel => exact ⟨j + 1, rfl, by omega, HE'⟩
              case measure => simp only [intOf]; omega
          · obtain rfl : j = kp := by omega
            have HE := Lib.hid (HS7.out.2.2.trans (hbw.out.mono HS7.out.2.2.size))
            clear hbw
            go_wp2_with fail
            go_ret
            exact ⟨rfl, HE.out⟩
  · have HRI2 : Hid (∀ W, Ns .i64 W W.heap.size As vs → Calls Try.prog 20 #[.slice As ns cs] W fun e w' => e = .returned (.bool false) ∧ Below W.heap.size W w') := Lib.hid fun W h => by
      have := HRI.out W h
      rwa [decide_eq_false hrv] at this
    clear HRI hrv
    go_enter Try.func4, Try.ntmps4
    go_wp2_with fail
    refine (HAW.out w).mono ?_
    rintro e w1 ⟨rfl, b1⟩
    go_wp2_with fail
    refine (HRI2.out w1 ((HZ.out.2.2.1.below b1).more b1.size)).mono ?_
    rintro e w2 ⟨rfl, b2⟩
    have b3 := b1.trans (b2.mono b1.size)
    go_wp2_with fail
    refine (HAW.out w2).mono ?_
    rintro e w3 ⟨rfl, b4⟩
    have b5 := b3.trans (b4.mono b3.size)
    go_wp2_with fail
    go_ret
    exact ⟨rfl, b5⟩
-- ROW BEGIN
set_option maxRecDepth 100000 in
/-- What the walk gives, shut again. -/
theorem contract (H : Type) (enc : TypeId × Value → H) (W : World) (base : Nat) (args : Array Value) (ds gs : List (DataW H)) (before : List MemPlace)
    (hval : ∀ (j : Nat) t v, Try.f4.params[j]? = some t → args[j]? = some v → Value.okWide Try.prog W .any base t v)
    (hW : DataW.Whole enc Try.prog Try.f4.params.toList Rows.inboxOrderSpec.vars false W args.toList ds gs before)
    (hsz : (DataW.weightsEach Try.prog (Try.f4.params.toList ++ Rows.inboxOrderSpec.plain.varTypes Try.prog) (ds ++ gs)).all (· ≤ reachBytes) = true) :
    Calls Try.prog 4 args W fun e W' => ∃ v, e = .returned v ∧ Rows.inboxOrderSpec.post enc Try.prog Try.f4 false true false false W args v W' := by
  have hW' := hW
  obtain ⟨p, q, hA0, hV, hbef, _, _⟩ := hW
  have hA : DataW.TrodAll enc Try.prog W 0 (fun _ => true) true Try.f4.params.toList args.toList ds p := hA0
  have hA1 := hA
  rw [Try.params4] at hA hval hsz
  obtain ⟨v0, vs0, d0, ds0, p0, q0, hargs, rfl, rfl, h0, r0⟩ := trodAll_cons hA
  obtain ⟨v1, vs1, d1, ds1, p1, q1, rfl, rfl, rfl, h1, r1⟩ := trodAll_cons r0
  obtain ⟨v2, vs2, d2, ds2, p2, q2, rfl, rfl, rfl, h2, r2⟩ := trodAll_cons r1
  obtain ⟨rfl, rfl, rfl⟩ := trodAll_nil r2
  obtain rfl : args = #[v0, v1, v2] := by cases args; simp_all
  obtain ⟨rfl, rfl⟩ := trodVars_none hV
  clear hA hargs
  obtain ⟨A0, c0, a0, rfl, n0, l0, b0⟩ := Inbox.arg_fars (hval 0 48 v0 rfl rfl) h0 (Wgt.wt_arg hsz (j := 0) rfl rfl)
  obtain ⟨A1, c1, a1, rfl, n1, w1, l1, _, o1⟩ := open_ns Try.underlying36 Try.underlying2 Facts.cells2 (hval 1 36 v1 rfl rfl) h1
  have b1 := reach_ns hsz (j := 1) rfl rfl Try.underlying36 Facts.bytes2 l1 o1
  obtain ⟨A2, c2, a2, rfl, n2, w2, l2, _, o2⟩ := open_ns Try.underlying53 Try.underlying5 Facts.cells5 (hval 2 53 v2 rfl rfl) h2
  have b2 := reach_ns hsz (j := 2) rfl rfl Try.underlying53 Facts.bytes5 l2 o2
  refine (walk W A0 c0 a0 n0 b0 l0 A1 c1 a1 n1 (fun z hz => wf_int (w1 z hz)) (by omega) l1 A2 c2 a2 n2 (fun z hz => wf_byte (w2 z hz)) (by omega) l2).mono fun e W' ⟨he, hb⟩ => ?_
  subst he
  exact ⟨_, rfl, law_post Facts.laid (by rfl) Try.underlying4 (by rw [Try.params4]; decide +kernel) hW' hA1 rfl hbef rfl rfl rfl hb⟩

set_option maxRecDepth 100000 in
theorem lifted (os : Os) (started : os.Started) (H : Type) (enc : TypeId × Value → H) :
    ReturnsInHanded {} Try.checked os 4 .any (Rows.inboxOrderSpec.pre6 enc Try.prog Try.f4 Rows.inboxOrderRow.domain false) (Rows.inboxOrderSpec.post enc Try.prog Try.f4 false true false false) := by
  refine returnsInHanded_of_change_sized (C := Try.checked) Facts.own started (by kernel_rfl) Try.func4
    (ChangeSpec.witness6 (enc := enc) (C := Try.checked) false ⟨#[], #[.slice none 0 0, .slice none 0 0, .slice none 0 0], []⟩ 8 (by kernel_rfl) (by kernel_rfl) (by kernel_rfl) (by kernel_rfl)) ?_
  intro W base args ds gs before hval hW _ hsz _
  exact contract H enc W base args ds gs before hval hW hsz

theorem holds : Rows.InboxOrderSaid :=
  OpenClaim.holds_of_wide 4 Try.f4 rfl rfl rfl rfl rfl rfl rfl ⟨rfl, rfl, rfl, rfl, rfl⟩ rfl rfl rfl rfl rfl (by kernel_rfl) Try.func4 (by kernel_rfl)
    (of_decide_eq_true (by kernel_rfl)) (by unfold Func.isWrapper; first | (rw [if_pos (by decide +kernel)]; kernel_rfl) | (rw [if_neg (by decide +kernel)]; exact ⟨rfl, rfl⟩))
    (fun os started H enc _ => lifted os started H enc)
-- ROW END
end InboxOrder
end Go.Proofs.Ytiempgabamheiaa
