/-
  MendGives: what the other one lacks beneath whatever path is the document's.
-/
import Derived.Test.YtekhaejhmlebbaaGreatPMendAwake
import Derived.Test.YtekhaejhmlebbaaGreatPHTreeD
namespace Go.Proofs.YtekhaejhmlebbaaGreat
namespace MendGives
open Go.ChangeShapes Go.WideShapes Go.ChangeAt Go.RowKit Vers Num Ring Disk Blk Tree Mend
open Go.Proofs.YtekhaejhmlebbaaGreat.Code hiding Bn
attribute [local go_sem ↓] Go.wp_at_zero Go.wp_at_succ
theorem give_len (l : List Rc) (p : List Int) (l' : List Rc) : (giveR l p l').length ≤ l.length := by
  unfold giveR
  split
  · unfold giveF
    refine Nat.le_trans (List.length_filter_le _ _) (Nat.le_trans (recs_len _ _) (held_len l))
  · simp
set_option maxRecDepth 100000 in
set_option maxHeartbeats 4000000 in
theorem walk (w : World) (A : Option Addr) (c : Nat) (l : List Rc) (hl : Rs w 0 w.heap.size A l) (hb : l.length * 40 ≤ 140737488351232) (_hlc : l.length ≤ c) (Ap : Option Addr) (cp : Nat) (p : List Int) (hp : Ns .i64 w w.heap.size Ap p) (_hwf : ∀ z ∈ p, -9223372036854775808 ≤ z ∧ z ≤ 9223372036854775807) (hpb : p.length * 8 ≤ 140737488351232) (_hpc : p.length ≤ cp)
    (A' : Option Addr) (c' : Nat) (l' : List Rc) (hl' : Rs w 0 w.heap.size A' l') (hb' : l'.length * 40 ≤ 140737488351232) (_hlc' : l'.length ≤ c') :
    Calls Tryz.prog 5 #[.slice A l.length c, .slice Ap p.length cp, .slice A' l'.length c'] w fun e w' => e = .returned (.bool true) ∧ Below w.heap.size w w' := by
  obtain ⟨n, hn⟩ : ∃ n, l.length = n := ⟨_, rfl⟩
  obtain ⟨np, hnp⟩ : ∃ n, p.length = n := ⟨_, rfl⟩
  obtain ⟨n', hn'⟩ : ∃ n, l'.length = n := ⟨_, rfl⟩
  rw [hn] at hb ⊢
  rw [hnp] at hpb ⊢
  rw [hn'] at hb' ⊢
  have hlW : ∀ W, Below w.heap.size w W → Rs W 0 W.heap.size A l := fun W h => (hl.below h).more h.size
  have hlW' : ∀ W, Below w.heap.size w W → Rs W 0 W.heap.size A' l' := fun W h => (hl'.below h).more h.size
  have hpW : ∀ W, Below w.heap.size w W → Ns .i64 W W.heap.size Ap p := fun W h => (hp.below h).more h.size
  have HP := Lib.hid (And.intro hn (And.intro hnp hn'))
  have H0 := Lib.hid (awake_any w)
  clear hl hp hl' hn hnp hn'
  go_enter Tryz.func5, Tryz.ntmps5
  go_wp2_with fail
  refine H0.out.mono ?_
  rintro e1 w1 ⟨rfl, b1⟩
  have B1 := Lib.hid b1
  have HG := Lib.hid (give_any A A' Ap c c' cp n n' np l l' p HP.out.1 HP.out.2.2 HP.out.2.1 (by omega) (by omega) (by omega) w1 (hlW _ b1) (hlW' _ b1) (hpW _ b1))
  clear b1 H0
  go_wp2_with fail
  refine HG.out.mono ?_
  rintro e2 w2 ⟨A2, m2, c2, rfl, h2, b2⟩
  have B2 := Lib.hid (And.intro h2.out (B1.out.trans (b2.mono B1.out.size)))
  have HR := Lib.hid (ref_give_any A A' Ap c c' cp n n' np l l' p HP.out.1 HP.out.2.2 HP.out.2.1 (by omega) (by omega) (by omega) w2 (hlW _ B2.out.2) (hlW' _ B2.out.2) (hpW _ B2.out.2))
  clear h2 b2 HG
  go_wp2_with fail
  refine HR.out.mono ?_
  rintro e3 w3 ⟨A3, m3, c3, rfl, h3, b3⟩
  have B3 := Lib.hid (And.intro h3.out (B2.out.2.trans (b3.mono B2.out.2.size)))
  have hS := Code.srecs_any A2 A3 c2 c3 m2 m3 (giveR l p l') (giveR l p l') B2.out.1.1 h3.out.1 w3 ((B2.out.1.2.2.below b3).more b3.size) h3.out.2.2 (by have := give_len l p l'; have := B2.out.1.1; have := HP.out.1; omega) (by have := give_len l p l'; have := h3.out.1; have := HP.out.1; omega)
  rw [decide_eq_true rfl] at hS
  have HS := Lib.hid hS
  clear hS h3 b3 HR
  go_wp2_with fail
  refine HS.out.mono ?_
  rintro e4 w4 ⟨rfl, b4⟩
  have HF := Lib.hid (B3.out.2.trans (b4.mono B3.out.2.size))
  clear b4 HS
  go_wp2_with fail
  go_ret
  exact ⟨rfl, HF.out⟩
-- ROW BEGIN
set_option maxRecDepth 100000 in
/-- What the walk gives, shut again. -/
theorem contract (H : Type) (enc : TypeId × Value → H) (W : World) (base : Nat) (args : Array Value) (ds gs : List (DataW H)) (before : List MemPlace)
    (hval : ∀ (j : Nat) t v, Tryz.f5.params[j]? = some t → args[j]? = some v → Value.okWide Tryz.prog W .any base t v)
    (hW : DataW.Whole enc Tryz.prog Tryz.f5.params.toList Rows.mendGivesSpec.vars false W args.toList ds gs before)
    (hsz : (DataW.weightsEach Tryz.prog (Tryz.f5.params.toList ++ Rows.mendGivesSpec.plain.varTypes Tryz.prog) (ds ++ gs)).all (· ≤ reachBytes) = true) :
    Calls Tryz.prog 5 args W fun e W' => ∃ v, e = .returned v ∧ Rows.mendGivesSpec.post enc Tryz.prog Tryz.f5 false true false false W args v W' := by
  have hW' := hW
  obtain ⟨p, q, hA0, hV, hbef, _, _⟩ := hW
  have hA : DataW.TrodAll enc Tryz.prog W 0 (fun _ => true) true Tryz.f5.params.toList args.toList ds p := hA0
  have hA1 := hA
  rw [Tryz.params5] at hA hval hsz
  obtain ⟨v0, vs0, d0, ds0, p0, q0, hargs, rfl, rfl, h0, r0⟩ := trodAll_cons hA
  obtain ⟨v1, vs1, d1, ds1, p1, q1, rfl, rfl, rfl, h1, r1⟩ := trodAll_cons r0
  obtain ⟨v2, vs2, d2, ds2, p2, q2, rfl, rfl, rfl, h2, r2⟩ := trodAll_cons r1
  obtain ⟨rfl, rfl, rfl⟩ := trodAll_nil r2
  obtain rfl : args = #[v0, v1, v2] := by cases args; simp_all
  obtain ⟨rfl, rfl⟩ := trodVars_none hV
  clear hA hargs
  obtain ⟨A0, c0, a0, rfl, n0, l0, b0⟩ := Tree.arg_recs (hval 0 22 v0 rfl rfl) h0 (Vers.wt_arg hsz (j := 0) rfl rfl)
  obtain ⟨A1, c1, a1, rfl, n1, w1, l1, _, o1⟩ := open_ns Tryz.underlying23 Tryz.underlying3 Facts.cells3 (hval 1 23 v1 rfl rfl) h1
  have b1 := reach_ns hsz (j := 1) rfl rfl Tryz.underlying23 Facts.bytes3 l1 o1
  obtain ⟨A2, c2, a2, rfl, n2, l2, b2⟩ := Tree.arg_recs (hval 2 22 v2 rfl rfl) h2 (Vers.wt_arg hsz (j := 2) rfl rfl)
  refine (walk W A0 c0 a0 n0 b0 l0 A1 c1 a1 n1 (fun z hz => wf_int (w1 z hz)) (by omega) l1 A2 c2 a2 n2 b2 l2).mono fun e W' ⟨he, hb⟩ => ?_
  subst he
  exact ⟨_, rfl, law_post Facts.laid (by rfl) Tryz.underlying4 (by rw [Tryz.params5]; decide +kernel) hW' hA1 rfl hbef rfl rfl rfl hb⟩

set_option maxRecDepth 100000 in
theorem lifted (os : Os) (started : os.Started) (H : Type) (enc : TypeId × Value → H) :
    ReturnsInHanded {} Tryz.checked os 5 .any (Rows.mendGivesSpec.pre6 enc Tryz.prog Tryz.f5 Rows.mendGivesRow.domain false) (Rows.mendGivesSpec.post enc Tryz.prog Tryz.f5 false true false false) := by
  refine returnsInHanded_of_change_sized (C := Tryz.checked) Facts.own started (by kernel_rfl) Tryz.func5
    (ChangeSpec.witness6 (enc := enc) (C := Tryz.checked) false ⟨#[], #[.slice none 0 0, .slice none 0 0, .slice none 0 0], []⟩ 8 (by kernel_rfl) (by kernel_rfl) (by kernel_rfl) (by kernel_rfl)) ?_
  intro W base args ds gs before hval hW _ hsz _
  exact contract H enc W base args ds gs before hval hW hsz

theorem holds : Rows.MendGivesSaid :=
  OpenClaim.holds_of_wide 5 Tryz.f5 rfl rfl rfl rfl rfl rfl rfl ⟨rfl, rfl, rfl, rfl, rfl⟩ rfl rfl rfl rfl rfl (by kernel_rfl) Tryz.func5 (by kernel_rfl)
    (of_decide_eq_true (by kernel_rfl)) (by unfold Func.isWrapper; first | (rw [if_pos (by decide +kernel)]; kernel_rfl) | (rw [if_neg (by decide +kernel)]; exact ⟨rfl, rfl⟩))
    (fun os started H enc _ => lifted os started H enc)
-- ROW END
end MendGives
end Go.Proofs.YtekhaejhmlebbaaGreat
