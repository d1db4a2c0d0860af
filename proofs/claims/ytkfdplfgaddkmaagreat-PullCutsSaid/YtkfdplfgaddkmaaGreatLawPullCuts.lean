/-
 PullCuts (P19.1): a cut, and what it answers for whatever path, are the document's. For every input.
-/
import Derived.Test.YtkfdplfgaddkmaaGreatK37
import Derived.Test.YtkfdplfgaddkmaaGreatK39
import Derived.Test.YtkfdplfgaddkmaaGreatK35
import Derived.Deep.RegionHeld3
import Derived.Deep.DrawnRows
namespace Go.Proofs.YtkfdplfgaddkmaaGreat
namespace Facts
theorem cells2 : Tryz.prog.cellsOf 2 = 1 := by kernel_rfl
theorem bytes2 : Tryz.prog.bytesOf 2 = 8 := by kernel_rfl
end Facts
namespace Pull
open Go.RowKit Blk Go.Maps Disk Tree Vers Num Ring Mend
open Go.Proofs.YtkfdplfgaddkmaaGreat.Code hiding Bn
theorem DC.two {base mb nv cv m c : Nat} {V : World} {id : Int} {vec : List Int} {all : List Rc} {Av A : Option Addr} {ps : List Pr} (h : DC base V mb id vec all Av nv cv A m c ps) : V.cell? ⟨mb, 1, none⟩ = some (.slice Av nv cv) ∧ V.cell? ⟨mb, 2, none⟩ = some (.slice A m c) := h.cells.2
end Pull
namespace PullCuts
open Go.ChangeShapes Go.WideShapes Go.ChangeAt Go.RowKit Vers Num Ring Disk Blk Tree Mend Pull
open Go.Proofs.YtkfdplfgaddkmaaGreat.Code hiding Bn
attribute [local go_sem ↓] Go.wp_at_zero Go.wp_at_succ
theorem same_vec {base mb nv cv m c n8 c8 : Nat} {V w8 : World} {id : Int} {vec : List Int} {all : List Rc} {Av A A8 : Option Addr} {ps : List Pr} (h8 : Hid (vec.length = n8 ∧ n8 ≤ 16 ∧ w8.ownsRow V.heap.size 2 1 (.slice A8 n8 c8) n8 (nums .i64 vec))) (d8 : DC base w8 mb id vec all Av nv cv A m c ps) :
  Hid (Calls Tryz.prog 17 #[.slice A8 n8 c8, .slice Av nv cv] w8 (fun e w' => e = .returned (.bool true) ∧ Below w8.heap.size w8 w')) := Lib.hid (by
 have M4 := Code.svec_any A8 Av c8 cv n8 nv vec vec h8.out.1 d8.len w8 (by have h9 := h8.out.2.2; have h10 := h8.out.1; subst h10; exact own_ns h9) d8.ns (by have := h8.out.2.1; omega) (by have := d8.vfew; omega)
 rwa [decide_eq_true rfl] at M4)
theorem kids_at {base mb nv cv m c : Nat} {V : World} {id : Int} {vec : List Int} {all : List Rc} {Av A : Option Addr} {ps : List Pr} (d : DC base V mb id vec all Av nv cv A m c ps) (hm : m ≤ 3518437208882) :
  Hid (Calls Tryz.prog 20 #[.slice A m c, .slice none 0 0] V (fun e w' => ∃ A1 m1 c1, e = .returned (.slice A1 m1 c1) ∧ Hid ((kidsF all []).length = m1 ∧ Ns .u64 w' w'.heap.size A1 (kidsF all [])) ∧ Below V.heap.size V w')) := Lib.hid (by
 refine (ref_kids_tell V A c m all d.alln hm d.ok d.rs none 0 0 [] rfl (by omega) ns_nil).mono ?_
 intro e w' h
 obtain ⟨A1, m1, c1, he, y1, y2, b⟩ := newH_ns h
 exact ⟨A1, m1, c1, he, Lib.hid ⟨y1, y2⟩, b⟩)
theorem same_kids {F : Nat → Prop} {w V w10 w11 : World} {cb m10 c10 m11 c11 : Nat} {id : Int} {vec : List Int} {all : List Rc} {A10 A11 : Option Addr} (h10 : Hid (KidN F w V cb id vec all (kidsF all []) A10 m10 c10 w10)) (y : Hid ((kidsF all []).length = m11 ∧ Ns .u64 w11 w11.heap.size A11 (kidsF all []))) (b11 : Below w10.heap.size w10 w11) :
  Hid (Calls Tryz.prog 15 #[.slice A10 m10 c10, .slice A11 m11 c11] w11 (fun e w' => e = .returned (.bool true) ∧ Below w11.heap.size w11 w')) := Lib.hid (by
 obtain ⟨z1, _, z3, _, _, _⟩ := h10.out
 have hk := kids_len16 all []
 have M7 := Code.shashes_any A10 A11 c10 c11 m10 m11 _ _ z1 y.out.1 w11 ((z3.below b11).more b11.size) y.out.2 (by omega) (by have := y.out.1; omega)
 rwa [decide_eq_true rfl] at M7)
set_option maxRecDepth 100000 in
set_option maxHeartbeats 8000000 in
theorem walk (w : World) (Av : Option Addr) (cv : Nat) (vec : List Int) (hv : Ns .i64 w w.heap.size Av vec) (_hwf : ∀ z ∈ vec, -9223372036854775808 ≤ z ∧ z ≤ 9223372036854775807) (hvb : vec.length * 8 ≤ 140737488351232) (_hvc : vec.length ≤ cv)
  (A : Option Addr) (c : Nat) (list : List Rc) (ha : Rs w 0 w.heap.size A list) (hb : list.length * 40 ≤ 140737488351232) (_hc : list.length ≤ c)
  (Ap : Option Addr) (cp : Nat) (path : List Int) (hp : Ns .i64 w w.heap.size Ap path) (_hpf : ∀ z ∈ path, -9223372036854775808 ≤ z ∧ z ≤ 9223372036854775807) (hpb : path.length * 8 ≤ 140737488351232) (_hpc : path.length ≤ cp) :
  Calls Tryz.prog 3 #[.slice Av vec.length cv, .slice A list.length c, .slice Ap path.length cp] w fun e w' => e = .returned (.bool true) ∧ Below w.heap.size w w' := by
 obtain ⟨n, hn⟩ : ∃ n, list.length = n := ⟨_, rfl⟩
 obtain ⟨nv, hnv⟩ : ∃ n, vec.length = n := ⟨_, rfl⟩
 obtain ⟨np, hnp⟩ : ∃ n, path.length = n := ⟨_, rfl⟩
 rw [hn] at hb ⊢
 rw [hnv] at hvb ⊢
 rw [hnp] at hpb ⊢
 have HP : Hid ((∀ W, Below w.heap.size w W → Rs W 0 W.heap.size A list ∧ Ns .i64 W W.heap.size Av vec ∧ Ns .i64 W W.heap.size Ap path) ∧ list.length = n ∧ vec.length = nv ∧ path.length = np) := Lib.hid ⟨fun W h => ⟨(ha.below h).more h.size, (hv.below h).more h.size, (hp.below h).more h.size⟩, hn, hnv, hnp⟩
 have K1 := Lib.hid (newcut_any (Below.refl _ w) 7 Av A nv cv n c vec list hnv hn (by omega) (by omega) hv ha)
 clear ha hv hp hn hnv hnp
 go_enter Tryz.func3, Tryz.ntmps3
 go_wp2_with fail
 refine K1.out.mono ?_
 rintro e1 w1 (⟨hrv, hok, cb, rfl, h1, b1⟩ | ⟨hno, rfl, b1⟩)
 ·have h0 := HP.out.1 w1 b1
  have K2 := Lib.hid (refcut_any w1 7 Av A nv cv n c vec list HP.out.2.2.1 HP.out.2.1 (by omega) (by omega) h0.2.1 h0.1)
  have H1 := Lib.hid (And.intro h1.out (And.intro b1 (And.intro hrv hok)))
  clear h1 b1 hrv hok h0 K1
  unfold hd
  go_wp2_with fail
  refine K2.out.mono ?_
  rintro e2 w2 (⟨_, _, mb, Av2, nv2, cv2, A2, m2, c2, ps, rfl, h2, b2⟩ | ⟨hno, _, _⟩)
  rotate_left
  ·exact absurd H1.out.2.2 hno
  have K3 := Lib.hid (awake_any w2)
  obtain ⟨F, h1, hF⟩ := H1.out.1
  have H2 := Lib.hid (And.intro (h1.below b2) (And.intro h2.out (fun k hk => h1.lt hk : ∀ k, F k → k < w1.heap.size)))
  clear h1 hF h2 b2 H1 K2
  go_wp2_with fail
  refine K3.out.mono ?_
  rintro e3 w3 ⟨rfl, b3⟩
  have T3 := Lib.hid (And.intro (H2.out.1.below b3) (And.intro (H2.out.2.1.below b3) H2.out.2.2))
  clear b3 K3 H2
  have K4 := Lib.hid (T3.out.1.want_any Ap cp np path HP.out.2.2.2 (by omega) (HP.out.1 w3 T3.out.1.old).2.2)
  unfold hd at K4
  go_wp2_with fail
  refine K4.out.mono ?_
  intro e4 w4 h4
  have hlen := T3.out.1.few
  obtain ⟨k4, t4, g4⟩ := ans_prog h4 hlen
  clear h4
  have d4 := T3.out.2.1.chg g4 fun k hk _ hF => by have := T3.out.2.2 k hF; omega
  have hm2 : m2 ≤ 3518437208882 := by rw [← d4.alln]; exact hlen
  have K5 := Lib.hid (d4.want hm2 Ap cp np path HP.out.2.2.2 (by omega) (HP.out.1 w4 t4.old).2.2)
  have T4 := Lib.hid (And.intro t4 (And.intro d4 (And.intro T3.out.2.2 hm2)))
  clear t4 d4 g4 T3 K4 hm2
  obtain ⟨W, hW⟩ : ∃ W, wantA (layF list) path = W := ⟨_, rfl⟩
  rw [hW] at k4
  have HW := Lib.hid hW
  clear hW
  obtain ⟨zs, ls, b⟩ := W
  obtain ⟨Ah, nh, ch, Al, nl, cl, rfl, h4⟩ := ans_open k4
  go_wp2_with fail
  refine K5.out.mono ?_
  intro e5 w5 h5
  obtain ⟨k5, b5⟩ := ans_doc h5 hlen
  clear h5
  rw [HW.out] at k5
  obtain ⟨Ai, ni, ci, Am, nm, cm, rfl, h5⟩ := ans_open k5
  have b5' : Below w4.heap.size w4 w5.drew := b5.drew
  have t5 := T4.out.1.below b5'
  have d5 := T4.out.2.1.below b5'
  have bD : Below w5.heap.size w5 w5.drew := (Below.refl _ w5).drew
  have HI : Hid (∀ X, Below w5.heap.size w5 X → Ns .u64 X X.heap.size Ah zs ∧ Rs X 0 X.heap.size Al ls ∧ Ns .u64 X X.heap.size Ai zs ∧ Rs X 0 X.heap.size Am ls) := Lib.hid fun X hX => by
   have b6 := b5.trans (hX.mono b5.size)
   exact ⟨(h4.out.2.2.2.2.1.below b6).more b6.size, (h4.out.2.2.2.2.2.below b6).more b6.size, (h5.out.2.2.2.2.1.below hX).more hX.size, (h5.out.2.2.2.2.2.below hX).more hX.size⟩
  have HL : Hid ((zs.length = nh ∧ ls.length = nl ∧ nh ≤ 16 ∧ nl ≤ 3518437208882) ∧ zs.length = ni ∧ ls.length = nm ∧ ni ≤ 16 ∧ nm ≤ 3518437208882) := Lib.hid ⟨⟨h4.out.1, h4.out.2.1, h4.out.2.2.1, h4.out.2.2.2.1⟩, h5.out.1, h5.out.2.1, h5.out.2.2.1, h5.out.2.2.2.1⟩
  have L1 := Code.shashes_any Ah Ai ch ci nh ni zs zs HL.out.1.1 HL.out.2.1 w5.drew (HI.out _ bD).1 (HI.out _ bD).2.2.1 (by have := HL.out.1.2.2.1; omega) (by have := HL.out.2.2.2.1; omega)
  rw [decide_eq_true rfl] at L1
  have L1 := Lib.hid L1
  have L2 : Hid (∀ X, Below w5.heap.size w5 X → Calls Tryz.prog 16 #[.slice Al nl cl, .slice Am nm cm] X fun e w' => e = .returned (.bool true) ∧ Below X.heap.size X w') := Lib.hid fun X hX => by
   have h := Code.srecs_any Al Am cl cm nl nm ls ls HL.out.1.2.1 HL.out.2.2.1 X (HI.out X hX).2.1 (HI.out X hX).2.2.2 (by have := HL.out.1.2.2.2; omega) (by have := HL.out.2.2.2.2; omega)
   rwa [decide_eq_true rfl] at h
  have HS := Lib.hid d5.two
  have T5 := Lib.hid (And.intro t5 (And.intro d5 (And.intro (fun k hk hF => by have := T4.out.2.2.1 k hF; omega : ∀ k, w1.heap.size ≤ k → ¬ F k) T4.out.2.2.2)))
  clear t5 d5 b5 b5' h4 h5 T4 K5
  have bDH := Lib.hid bD
  clear bD
  have hbb : (b == b) = true := by cases b <;> rfl
  clear hlen HL HP HI HW
  go_wp2_with fail
  go_region_held3 (fun X => X.cell? ⟨mb, 1, none⟩ = some (.slice Av2 nv2 cv2) ∧ X.cell? ⟨mb, 2, none⟩ = some (.slice A2 m2 c2))
   (first
    | exact HS.out
    | assumption)
   (first
    | (go_at_call 15; refine M7.out.mono ?_; rintro e12 w12 ⟨rfl, b12⟩; have t12 := t11.below b12; have s12 := ((d10.below b11).below b12).two; have M8 := Lib.hid t12.id_any; unfold hd at M8)
    | (go_at_call 15; refine L1.out.mono ?_; rintro e6 w6 ⟨rfl, b6⟩; have q6 := bDH.out.trans (b6.mono bDH.out.size); have t6 := T5.out.1.below b6; have d6 := T5.out.2.1.below b6; have s6 := d6.two; have M2 := Lib.hid (L2.out w6 q6))
    | (go_at_call 16; refine M2.out.mono ?_; rintro e7 w7 ⟨rfl, b7⟩; have t7 := t6.below b7; have d7 := d6.below b7; have s7 := d7.two; have M3 := Lib.hid t7.vec_any; unfold hd at M3)
    | (go_at_call 18; refine M3.out.mono ?_; rintro e8 w8 ⟨A8, c8, n8, rfl, h8, b8⟩; have t8 := t7.below b8; have d8 := d7.below b8; have s8 := d8.two; have M4 := same_vec h8 d8)
    | (go_at_call 17; refine M4.out.mono ?_; rintro e9 w9 ⟨rfl, b9⟩; have t9 := t8.below b9; have d9 := d8.below b9; have s9 := d9.two; have M5 := Lib.hid t9.open_any; unfold hd at M5)
    | (go_at_call 19; refine M5.out.mono ?_; rintro e10 w10 ⟨A10, m10, c10, rfl, h10⟩; have t10 := h10.out.2.2.2.2.1; have d10 := d9.chg h10.out.2.2.2.2.2 (fun k hk _ hF => T5.out.2.2.1 k hk hF); have s10 := d10.two; have M6 := kids_at d10 T5.out.2.2.2)
    | (go_at_call 20; refine M6.out.mono ?_; rintro e11 w11 ⟨A11, m11, c11, rfl, h11, b11⟩; have t11 := t10.below b11; have s11 := (d10.below b11).two; have M7 := @same_kids F w w9 w10 w11 cb m10 c10 m11 c11 7 vec (layF list) A10 A11 h10 h11 b11)
    | (go_at_call 21; refine M8.out.mono ?_; rintro e13 w13 ⟨rfl, hw13⟩; obtain rfl := hw13))
  all_goals
   have HE := Lib.hid t12.old
   clear t12 t11 t10 t9 t8 t7 t6 d6 d7 d8 d9 d10 h8 h10 h11
   go_wp2_with fail
   go_ret
   exact ⟨rfl, HE.out⟩
 ·have h0 := HP.out.1 w1 b1
  have K2 := Lib.hid (refcut_any w1 7 Av A nv cv n c vec list HP.out.2.2.1 HP.out.2.1 (by omega) (by omega) h0.2.1 h0.1)
  have H1 := Lib.hid (And.intro b1 hno)
  clear b1 hno h0 K1
  go_wp2_with fail
  refine K2.out.mono ?_
  rintro e2 w2 (⟨hr, hk, _⟩ | ⟨_, rfl, b2⟩)
  ·exact absurd ⟨hr, hk⟩ H1.out.2
  have K3 := Lib.hid (awake_any w2)
  have H2 := Lib.hid (H1.out.1.trans (b2.mono H1.out.1.size))
  clear b2 H1 K2
  go_wp2_with fail
  refine K3.out.mono ?_
  rintro e3 w3 ⟨rfl, b3⟩
  have HE := Lib.hid (H2.out.trans (b3.mono H2.out.size))
  clear b3 K3
  go_wp2_with fail
  go_ret
  exact ⟨rfl, HE.out⟩
-- ROW BEGIN
set_option maxRecDepth 100000 in
theorem contract (H : Type) (enc : TypeId × Value → H) (W : World) (base : Nat) (args : Array Value) (ds gs : List (DataW H)) (before : List MemPlace)
  (hval : ∀ (j : Nat) t v, Tryz.f3.params[j]? = some t → args[j]? = some v → Value.okWide Tryz.prog W .any base t v)
  (hW : DataW.Whole enc Tryz.prog Tryz.f3.params.toList Rows.pullCutsSpec.vars false W args.toList ds gs before)
  (hsz : (DataW.weightsEach Tryz.prog (Tryz.f3.params.toList ++ Rows.pullCutsSpec.plain.varTypes Tryz.prog) (ds ++ gs)).all (· ≤ reachBytes) = true) :
  Calls Tryz.prog 3 args W fun e W' => ∃ v, e = .returned v ∧ Rows.pullCutsSpec.post enc Tryz.prog Tryz.f3 false true false false W args v W' := by
 have hW' := hW
 obtain ⟨p, q, hA0, hV, hbef, _, _⟩ := hW
 have hA : DataW.TrodAll enc Tryz.prog W 0 (fun _ => true) true Tryz.f3.params.toList args.toList ds p := hA0
 have hA1 := hA
 rw [Tryz.params3] at hA hval hsz
 obtain ⟨v0, vs0, d0, ds0, p0, q0, hargs, rfl, rfl, h0, r0⟩ := trodAll_cons hA
 obtain ⟨v1, vs1, d1, ds1, p1, q1, rfl, rfl, rfl, h1, r1⟩ := trodAll_cons r0
 obtain ⟨v2, vs2, d2, ds2, p2, q2, rfl, rfl, rfl, h2, r2⟩ := trodAll_cons r1
 obtain ⟨rfl, rfl, rfl⟩ := trodAll_nil r2
 obtain rfl : args = #[v0, v1, v2] := by cases args; simp_all
 obtain ⟨rfl, rfl⟩ := trodVars_none hV
 clear hA hargs
 obtain ⟨A0, c0, a0, rfl, n0, w0, l0, _, o0⟩ := open_ns Tryz.underlying22 Tryz.underlying2 Facts.cells2 (hval 0 22 v0 rfl rfl) h0
 have b0 := reach_ns hsz (j := 0) rfl rfl Tryz.underlying22 Facts.bytes2 l0 o0
 obtain ⟨A1, c1, a1, rfl, n1, l1, b1⟩ := Tree.arg_recs (hval 1 23 v1 rfl rfl) h1 (Vers.wt_arg hsz (j := 1) rfl rfl)
 obtain ⟨A2, c2, a2, rfl, n2, w2, l2, _, o2⟩ := open_ns Tryz.underlying24 Tryz.underlying3 Facts.cells3 (hval 2 24 v2 rfl rfl) h2
 have b2 := reach_ns hsz (j := 2) rfl rfl Tryz.underlying24 Facts.bytes3 l2 o2
 refine (walk W A0 c0 a0 n0 (fun z hz => wf_int (w0 z hz)) (by omega) l0 A1 c1 a1 n1 b1 l1 A2 c2 a2 n2 (fun z hz => wf_int (w2 z hz)) (by omega) l2).mono fun e W' ⟨he, hb⟩ => ?_
 subst he
 exact ⟨_, rfl, law_post Facts.laid (by rfl) Tryz.underlying4 (by rw [Tryz.params3]; decide +kernel) hW' hA1 rfl hbef rfl rfl rfl hb⟩

set_option maxRecDepth 100000 in
theorem lifted (os : Os) (started : os.Started) (H : Type) (enc : TypeId × Value → H) :
  ReturnsInHanded {} Tryz.checked os 3 .any (Rows.pullCutsSpec.pre6 enc Tryz.prog Tryz.f3 Rows.pullCutsRow.domain false) (Rows.pullCutsSpec.post enc Tryz.prog Tryz.f3 false true false false) := by
 refine returnsInHanded_of_change_sized (C := Tryz.checked) Facts.own started (by kernel_rfl) Tryz.func3
  (ChangeSpec.witness6 (enc := enc) (C := Tryz.checked) false ⟨#[], #[.slice none 0 0, .slice none 0 0, .slice none 0 0], []⟩ 8 (by kernel_rfl) (by kernel_rfl) (by kernel_rfl) (by kernel_rfl)) ?_
 intro W base args ds gs before hval hW _ hsz _
 exact contract H enc W base args ds gs before hval hW hsz

theorem holds : Rows.PullCutsSaid :=
 OpenClaim.holds_of_wide 3 Tryz.f3 rfl rfl rfl rfl rfl rfl rfl ⟨rfl, rfl, rfl, rfl, rfl⟩ rfl rfl rfl rfl rfl (by kernel_rfl) Tryz.func3 (by kernel_rfl)
  (of_decide_eq_true (by kernel_rfl)) (by unfold Func.isWrapper; first | (rw [if_pos (by decide +kernel)]; kernel_rfl) | (rw [if_neg (by decide +kernel)]; exact ⟨rfl, rfl⟩))
  (fun os started H enc _ => lifted os started H enc)
-- ROW END
end PullCuts
end Go.Proofs.YtkfdplfgaddkmaaGreat
