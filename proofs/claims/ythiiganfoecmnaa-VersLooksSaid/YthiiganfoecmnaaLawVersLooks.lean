/-
  VersLooks (P5.1): whether a version, a set is right, and whether two sets are the same, is the document's. For every input.
-/
import Derived.Test.YthiiganfoecmnaaVersAwake
import Derived.Test.YthiiganfoecmnaaVersArgs
import Derived.Test.YthiiganfoecmnaaVersRightOneRef
namespace Go.Proofs.Ythiiganfoecmnaa
namespace VersLooks
open Go.ChangeShapes Go.WideShapes Go.ChangeAt Go.RowKit Span Vers
attribute [local go_sem ↓] Go.wp_at_zero Go.wp_at_succ

/-- A version stands at a place, and only new memory was made. -/
def Held (w : World) (b o : Nat) (s n : Int) (A : Option Addr) (k c : Nat) (g : Bool) (x : ByteArray) (V : World) : Prop :=
  V.cell? ⟨b, o, none⟩ = some (.int .i64 s) ∧ V.cell? ⟨b, o + 1, none⟩ = some (.int .i64 n) ∧ V.cell? ⟨b, o + 2, none⟩ = some (.slice A k c) ∧ V.cell? ⟨b, o + 3, none⟩ = some (.bool g) ∧ V.cell? ⟨b, o + 4, none⟩ = some (.string x) ∧ Below w.heap.size w V ∧ b < V.heap.size
theorem held_keep {w V V' : World} {b o : Nat} {s n : Int} {A : Option Addr} {k c : Nat} {g : Bool} {x : ByteArray} (h : Held w b o s n A k c g x V) (hb : Below V.heap.size V V') : Held w b o s n A k c g x V' :=
  ⟨cell_below hb h.2.2.2.2.2.2 h.1, cell_below hb h.2.2.2.2.2.2 h.2.1, cell_below hb h.2.2.2.2.2.2 h.2.2.1, cell_below hb h.2.2.2.2.2.2 h.2.2.2.1, cell_below hb h.2.2.2.2.2.2 h.2.2.2.2.1, h.2.2.2.2.2.1.trans (hb.mono h.2.2.2.2.2.1.size), Nat.lt_of_lt_of_le h.2.2.2.2.2.2 hb.size⟩
theorem held_below {w V : World} {b o : Nat} {s n : Int} {A : Option Addr} {k c : Nat} {g : Bool} {x : ByteArray} (h : Held w b o s n A k c g x V) : Below w.heap.size w V := h.2.2.2.2.2.1

set_option maxRecDepth 100000 in
set_option maxHeartbeats 2000000 in
theorem walk (w : World) (A : Option Addr) (c : Nat) (a : List Vr) (hr : Vs w 0 w.heap.size A a) (hbig : a.length * 64 ≤ 140737488351232) (_hlc : a.length ≤ c)
    (A' : Option Addr) (c' : Nat) (b : List Vr) (hr' : Vs w 0 w.heap.size A' b) (hbig' : b.length * 64 ≤ 140737488351232) (_hlc' : b.length ≤ c') :
    Calls Try.prog 3 #[.slice A a.length c, .slice A' b.length c'] w fun e w' => e = .returned (.bool true) ∧ Below w.heap.size w w' := by
  have hS : ∀ W, Below w.heap.size w W → Vs W 0 W.heap.size A a ∧ Vs W 0 W.heap.size A' b := fun W h => ⟨(hr.below h).more h.size, (hr'.below h).more h.size⟩
  have h1 := fun W h => rightV_any A c a.length a rfl W (hS W h).1 (by omega)
  have h2 := fun W h => ref_rightV_any A c a.length a rfl W (hS W h).1 (by omega)
  have h3 := fun W h => sameV_any A A' c c' a.length b.length a b rfl rfl W (hS W h).1 (hS W h).2 (by omega) (by omega)
  have h4 := fun W h => ref_sameV_any A A' c c' a.length b.length a b rfl rfl W (hS W h).1 (hS W h).2 (by omega) (by omega)
  have h5 := fun W h => sameV_any A A c c a.length a.length a a rfl rfl W (hS W h).1 (hS W h).1 (by omega) (by omega)
  rw [show decide (a = a) = true from decide_eq_true rfl] at h5
  obtain ⟨Q, hQ⟩ : ∃ Q, decide (RightV a) = Q := ⟨_, rfl⟩
  obtain ⟨R, hR⟩ : ∃ R, decide (a = b) = R := ⟨_, rfl⟩
  rw [hQ] at h1 h2
  rw [hR] at h3 h4
  obtain ⟨m, hm⟩ : ∃ m, a.length = m := ⟨_, rfl⟩
  obtain ⟨m', hm'⟩ : ∃ m', b.length = m' := ⟨_, rfl⟩
  rw [hm] at h1 h2 h5 hbig
  rw [hm, hm'] at h3 h4 ⊢
  have H1 := Lib.hid h1
  have H2 := Lib.hid h2
  have H3 := Lib.hid h3
  have H4 := Lib.hid h4
  have H5 := Lib.hid h5
  have HV := Lib.hid (And.intro hr hm)
  clear h1 h2 h3 h4 h5 hm hm' hr hr' hbig' hS hQ hR
  go_enter Try.func3, Try.ntmps3
  go_wp2_with fail
  go_loopw [5] (fun iv wr => ∃ k : Nat, iv = .int .i64 k ∧ k ≤ m ∧ k ≤ 60 ∧ Below w.heap.size w wr) (fun iv _ => m - (intOf iv).toNat)
  case atStart => exact ⟨0, rfl, by omega, by omega, Below.refl _ _⟩
  case round =>
    obtain ⟨k, rfl, hk, hk6, hb⟩ := hrel
    by_cases hgo : k < m ∧ k < 60
    · obtain ⟨hlt, h60⟩ := hgo
      obtain ⟨pb, off, A1, c1, rfl, _, hbB, a0, a1, a2, a3, a4, hpa⟩ := HV.out.1.at HV.out.2 hb hlt rfl
      obtain ⟨v, hvv⟩ : ∃ v, a.getD k v0 = v := ⟨_, rfl⟩
      rw [hvv] at a0 a1 a2 a3 a4 hpa
      clear hvv
      obtain ⟨s, vn, vp, vg, vx⟩ := v
      simp only at a0 a1 a2 a3 a4
      obtain ⟨hps, _, hpb, hxb, _⟩ := hpa
      simp only at hps hpb hxb
      obtain ⟨kp, hkp⟩ : ∃ kp, vp.length = kp := ⟨_, rfl⟩
      rw [hkp] at a2 hpb
      have hsz := hb.size
      have lb : pb < wr.heap.size := by omega
      have hP : ∀ V, Held wr pb (off + k * 5) s vn A1 kp c1 vg vx V → Ss V V.heap.size A1 vp := fun V h => ((hps.more hsz).below (held_below h)).more (held_below h).size
      have g1 := fun W h => rightone_any A1 c1 kp s vn vp vg vx hkp W (hP W h) hpb hxb
      have g2 := fun W h => ref_rightone_any A1 c1 kp s vn vp vg vx hkp W (hP W h) hpb hxb
      have hst : Held wr pb (off + k * 5) s vn A1 kp c1 vg vx wr.drew := ⟨a0, a1, a2, a3, a4, (Below.refl _ wr).drew, lb⟩
      obtain ⟨q, hq⟩ : ∃ q, decide (okV ⟨s, vn, vp, vg, vx⟩) = q := ⟨_, rfl⟩
      rw [hq] at g1 g2
      have G1 := Lib.hid g1
      have G2 := Lib.hid g2
      have HB := Lib.hid hb
      have d1 : (0 : Int) ≤ (k : Int) := by omega
      have d2 : (k : Int) < (m : Int) := by omega
      have d3 : (k : Int) < 60 := by omega
      clear g1 g2 hq hps hpb hxb hkp hP hb
      go_wp2_with fail
      go_region_held3 (fun V => V.cell? ⟨pb, off + k * 5, none⟩ = some (.int .i64 s) ∧ V.cell? ⟨pb, off + k * 5 + 1, none⟩ = some (.int .i64 vn) ∧ V.cell? ⟨pb, off + k * 5 + 2, none⟩ = some (.slice A1 kp c1) ∧ V.cell? ⟨pb, off + k * 5 + 3, none⟩ = some (.bool vg) ∧ V.cell? ⟨pb, off + k * 5 + 4, none⟩ = some (.string vx) ∧ Below wr.heap.size wr V ∧ pb < V.heap.size)
        (first | exact hst | exact held_keep (by assumption) (by assumption))
        (first | (go_at_call 9; refine (G1.out _ (by assumption)).mono ?_; rintro e w3 ⟨rfl, b3⟩) | (go_at_call 10; refine (G2.out _ (by assumption)).mono ?_; rintro e w3 ⟨rfl, b3⟩))
      all_goals
        have BE := Lib.hid (HB.out.trans ((held_below (by assumption)).mono hsz))
        go_wp2_with fail
        exact ⟨⟨k + 1, rfl, by omega, by omega, BE.out⟩, by simp only [intOf]; omega⟩
    · have HG : Hid (k = m ∨ (k < m ∧ k = 60)) := Lib.hid (by omega)
      clear hgo
      rcases HG.out with rfl | ⟨hlt, rfl⟩
      all_goals
        go_wp2_with fail
        refine (awake_any _).mono ?_
        rintro e w1 ⟨rfl, b1⟩
        have hb1 := hb.trans (b1.mono hb.size)
        clear b1
        go_wp2_with fail
        refine (H1.out _ hb1).mono ?_
        rintro e w2 ⟨rfl, b2⟩
        have hb2 := hb1.trans (b2.mono hb1.size)
        clear b2 hb1
        go_wp2_with fail
        refine (H2.out _ hb2).mono ?_
        rintro e w3 ⟨rfl, b3⟩
        have hb3 := hb2.trans (b3.mono hb2.size)
        clear b3 hb2
        go_wp2_with fail
        refine (H3.out _ hb3).mono ?_
        rintro e w4 ⟨rfl, b4⟩
        have hb4 := hb3.trans (b4.mono hb3.size)
        clear b4 hb3
        go_wp2_with fail
        refine (H4.out _ hb4).mono ?_
        rintro e w5 ⟨rfl, b5⟩
        have hb5 := hb4.trans (b5.mono hb4.size)
        clear b5 hb4
        go_wp2_with fail
        refine (H5.out _ hb5).mono ?_
        rintro e w6 ⟨rfl, b6⟩
        have hb6 := hb5.trans (b6.mono hb5.size)
        clear b6 hb5
        go_wp2_with fail
        go_ret
        exact ⟨rfl, hb6⟩
-- ROW BEGIN
/-- What the walk gives, shut again. -/
theorem contract (H : Type) (enc : TypeId × Value → H) (W : World) (base : Nat) (args : Array Value) (ds gs : List (DataW H)) (before : List MemPlace)
    (hval : ∀ (j : Nat) t v, Try.f3.params[j]? = some t → args[j]? = some v → Value.okWide Try.prog W .any base t v)
    (hW : DataW.Whole enc Try.prog Try.f3.params.toList Rows.versLooksSpec.vars false W args.toList ds gs before)
    (hsz : (DataW.weightsEach Try.prog (Try.f3.params.toList ++ Rows.versLooksSpec.plain.varTypes Try.prog) (ds ++ gs)).all (· ≤ reachBytes) = true) :
    Calls Try.prog 3 args W fun e W' => ∃ v, e = .returned v ∧ Rows.versLooksSpec.post enc Try.prog Try.f3 false true false false W args v W' := by
  have hW' := hW
  obtain ⟨p, q, hA0, hV, hbef, _, _⟩ := hW
  have hA : DataW.TrodAll enc Try.prog W 0 (fun _ => true) true Try.f3.params.toList args.toList ds p := hA0
  have hA1 := hA
  rw [Try.params3] at hA hval hsz
  obtain ⟨v0, vs0, d0, ds0, p0, q0, hargs, rfl, rfl, h0, r0⟩ := trodAll_cons hA
  obtain ⟨v1, vs1, d1, ds1, p1, q1, rfl, rfl, rfl, h1, r1⟩ := trodAll_cons r0
  obtain ⟨rfl, rfl, rfl⟩ := trodAll_nil r1
  obtain rfl : args = #[v0, v1] := by cases args; simp_all
  obtain ⟨rfl, rfl⟩ := trodVars_none hV
  clear hA hargs
  obtain ⟨A0, c0, a0, rfl, n0, l0, b0⟩ := Vers.open_vs (hval 0 22 v0 rfl rfl) h0 (Vers.wt_arg hsz (j := 0) rfl rfl)
  obtain ⟨A1, c1, a1, rfl, n1, l1, b1⟩ := Vers.open_vs (hval 1 22 v1 rfl rfl) h1 (Vers.wt_arg hsz (j := 1) rfl rfl)
  refine (walk W A0 c0 a0 n0 b0 l0 A1 c1 a1 n1 b1 l1).mono fun e W' ⟨he, hb⟩ => ?_
  subst he
  exact ⟨_, rfl, law_post Facts.laid (by rfl) Try.underlying4 (by rw [Try.params3]; decide +kernel) hW' hA1 rfl hbef rfl rfl rfl hb⟩

set_option maxRecDepth 100000 in
theorem lifted (os : Os) (started : os.Started) (H : Type) (enc : TypeId × Value → H) :
    ReturnsInHanded {} Try.checked os 3 .any (Rows.versLooksSpec.pre6 enc Try.prog Try.f3 Rows.versLooksRow.domain false) (Rows.versLooksSpec.post enc Try.prog Try.f3 false true false false) := by
  refine returnsInHanded_of_change_sized (C := Try.checked) Facts.own started (by kernel_rfl) Try.func3
    (ChangeSpec.witness6 (enc := enc) (C := Try.checked) false ⟨#[], #[.slice none 0 0, .slice none 0 0], []⟩ 8 (by kernel_rfl) (by kernel_rfl) (by kernel_rfl) (by kernel_rfl)) ?_
  intro W base args ds gs before hval hW _ hsz _
  exact contract H enc W base args ds gs before hval hW hsz

theorem holds : Rows.VersLooksSaid :=
  OpenClaim.holds_of_wide 3 Try.f3 rfl rfl rfl rfl rfl rfl rfl ⟨rfl, rfl, rfl, rfl, rfl⟩ rfl rfl rfl rfl rfl (by kernel_rfl) Try.func3 (by kernel_rfl)
    (of_decide_eq_true (by kernel_rfl)) (by unfold Func.isWrapper; first | (rw [if_pos (by decide +kernel)]; kernel_rfl) | (rw [if_neg (by decide +kernel)]; exact ⟨rfl, rfl⟩))
    (fun os started H enc _ => lifted os started H enc)
-- ROW END
end VersLooks
end Go.Proofs.Ythiiganfoecmnaa
