/-
  MendTakes: what comes of what the other one holds is the document's. Up to a bulk of the input.
-/
import Derived.Test.YtekhaejhmlebbaaGreatPMendAwake
import Derived.Test.YtekhaejhmlebbaaGreatPMendBulk
namespace Go.Proofs.YtekhaejhmlebbaaGreat
namespace MendTakes
open Go.ChangeShapes Go.WideShapes Go.ChangeAt Go.RowKit Vers Num Ring Disk Blk Tree Mend
open Go.Proofs.YtekhaejhmlebbaaGreat.Code hiding Bn
attribute [local go_sem ↓] Go.wp_at_zero Go.wp_at_succ
theorem now_len (l : List Rc) : ∀ was : List Rc, (nowF was l).length ≤ was.length + l.length := by
  induction l with
  | nil => intro was; simp [nowF]
  | cons r l ih =>
    intro was
    have h1 := ih (mergeR was r)
    have h2 := merge_len was r
    unfold nowF at h1 ⊢
    simp only [List.foldl_cons, List.length_cons]
    omega
theorem take_len (l l' : List Rc) : (takeR l l').1.length ≤ l.length + l'.length := by
  unfold takeR
  split
  · unfold takeF
    have h1 := List.length_filter_le (fun r : Rc => !decide (r.2 = getF (heldF l) r.1)) (nowF (heldF l) l')
    have h2 := now_len l' (heldF l)
    have h3 := held_len l
    simp only
    omega
  · simp
set_option maxRecDepth 100000 in
set_option maxHeartbeats 4000000 in
theorem walk (w : World) (A : Option Addr) (c : Nat) (l : List Rc) (hl : Rs w 0 w.heap.size A l) (_hb : l.length * 40 ≤ 140737488351232) (_hlc : l.length ≤ c)
    (A' : Option Addr) (c' : Nat) (l' : List Rc) (hl' : Rs w 0 w.heap.size A' l') (_hb' : l'.length * 40 ≤ 140737488351232) (_hlc' : l'.length ≤ c') (hbulk : l.length + l'.length ≤ 1048576) :
    Calls Tryz.prog 4 #[.slice A l.length c, .slice A' l'.length c'] w fun e w' => e = .returned (.bool true) ∧ Below w.heap.size w w' := by
  obtain ⟨n, hn⟩ : ∃ n, l.length = n := ⟨_, rfl⟩
  obtain ⟨n', hn'⟩ : ∃ n, l'.length = n := ⟨_, rfl⟩
  have hT := take_len l l'
  obtain ⟨R, hR⟩ : ∃ R, takeR l l' = R := ⟨_, rfl⟩
  have H1 := take_any A A' c c' n n' l l' hn hn' (by omega) (by omega) w hl hl'
  rw [hR] at H1 hT
  have H1 := Lib.hid H1
  rw [hn, hn'] at hbulk hT ⊢
  have hlW : ∀ W, Below w.heap.size w W → Rs W 0 W.heap.size A l := fun W h => (hl.below h).more h.size
  have hlW' : ∀ W, Below w.heap.size w W → Rs W 0 W.heap.size A' l' := fun W h => (hl'.below h).more h.size
  have HP := Lib.hid (And.intro hn (And.intro hn' hR))
  clear hl hl' hn hn' hR
  go_enter Tryz.func4, Tryz.ntmps4
  go_wp2_with fail
  refine H1.out.mono ?_
  rintro e1 w1 ⟨A1, m1, c1, ps1, rfl, h1, b1⟩
  have hra : Rs w1 0 w1.heap.size A1 R.1 := by
    have h := h1.out.2.2.2.rs.less (Nat.zero_le _)
    rwa [h1.out.1] at h
  have B1 := Lib.hid (And.intro h1.out.2.1 (And.intro hra b1))
  have h2 := ref_take_any A A' c c' n n' l l' HP.out.1 HP.out.2.1 (by omega) w1 (hlW _ b1) (hlW' _ b1)
  rw [HP.out.2.2] at h2
  have H2 := Lib.hid h2
  clear h1 h2 b1 hra H1
  go_wp2_with fail
  refine H2.out.mono ?_
  rintro e2 w2 ⟨A2, m2, c2, rfl, h2, b2⟩
  have B2 := Lib.hid (And.intro h2.out (And.intro (B1.out.2.1.below b2 |>.more b2.size) (B1.out.2.2.trans (b2.mono B1.out.2.2.size))))
  have H3 := Lib.hid (awake_any w2)
  clear h2 b2 H2
  go_wp2_with fail
  refine H3.out.mono ?_
  rintro e3 w3 ⟨rfl, b3⟩
  have hS := Code.srecs_any A1 A2 c1 c2 m1 m2 R.1 R.1 B1.out.1 B2.out.1.1 w3 ((B2.out.2.1.below b3).more b3.size) ((B2.out.1.2.2.below b3).more b3.size) (by have := B1.out.1; omega) (by have := B2.out.1.1; omega)
  rw [decide_eq_true rfl] at hS
  have HS := Lib.hid hS
  have B3 := Lib.hid (B2.out.2.2.trans (b3.mono B2.out.2.2.size))
  clear hS b3 H3
  go_wp2_with fail
  refine HS.out.mono ?_
  rintro e4 w4 ⟨rfl, b4⟩
  have HF := Lib.hid (B3.out.trans (b4.mono B3.out.size))
  clear b4 HS
  go_wp2_with fail
  go_ret
  exact ⟨by simp, HF.out⟩
-- ROW BEGIN
set_option maxRecDepth 100000 in
/-- What the walk gives, shut again. -/
theorem contract (H : Type) (enc : TypeId × Value → H) (W : World) (base : Nat) (args : Array Value) (ds gs : List (DataW H)) (before : List MemPlace)
    (hval : ∀ (j : Nat) t v, Tryz.f4.params[j]? = some t → args[j]? = some v → Value.okWide Tryz.prog W .any base t v)
    (hW : DataW.Whole enc Tryz.prog Tryz.f4.params.toList Rows.mendTakesSpec.vars false W args.toList ds gs before)
    (hsz : (DataW.weightsEach Tryz.prog (Tryz.f4.params.toList ++ Rows.mendTakesSpec.plain.varTypes Tryz.prog) (ds ++ gs)).all (· ≤ reachBytes) = true) (hk : Rows.uptoSmall H (ds ++ gs) = true) :
    Calls Tryz.prog 4 args W fun e W' => ∃ v, e = .returned v ∧ Rows.mendTakesSpec.post enc Tryz.prog Tryz.f4 false true false false W args v W' := by
  have hW' := hW
  obtain ⟨p, q, hA0, hV, hbef, _, _⟩ := hW
  have hA : DataW.TrodAll enc Tryz.prog W 0 (fun _ => true) true Tryz.f4.params.toList args.toList ds p := hA0
  have hA1 := hA
  rw [Tryz.params4] at hA hval hsz
  obtain ⟨v0, vs0, d0, ds0, p0, q0, hargs, rfl, rfl, h0, r0⟩ := trodAll_cons hA
  obtain ⟨v1, vs1, d1, ds1, p1, q1, rfl, rfl, rfl, h1, r1⟩ := trodAll_cons r0
  obtain ⟨rfl, rfl, rfl⟩ := trodAll_nil r1
  obtain rfl : args = #[v0, v1] := by cases args; simp_all
  obtain ⟨rfl, rfl⟩ := trodVars_none hV
  clear hA hargs
  obtain ⟨A0, c0, a0, rfl, n0, l0, b0⟩ := Tree.arg_recs (hval 0 22 v0 rfl rfl) h0 (Vers.wt_arg hsz (j := 0) rfl rfl)
  obtain ⟨A1, c1, a1, rfl, n1, l1, b1⟩ := Tree.arg_recs (hval 1 22 v1 rfl rfl) h1 (Vers.wt_arg hsz (j := 1) rfl rfl)
  have hbulk : a0.length + a1.length ≤ 1048576 := by
    have h := Bulk.bound hk
    have e0 := Mend.recs_bulk h0
    have e1 := Mend.recs_bulk h1
    simp only [List.append_nil, Rows.uptoBulkAll] at h
    omega
  refine (walk W A0 c0 a0 n0 b0 l0 A1 c1 a1 n1 b1 l1 hbulk).mono fun e W' ⟨he, hb⟩ => ?_
  subst he
  exact ⟨_, rfl, law_post Facts.laid (by rfl) Tryz.underlying4 (by rw [Tryz.params4]; decide +kernel) hW' hA1 rfl hbef rfl rfl rfl hb⟩

set_option maxRecDepth 100000 in
theorem lifted (os : Os) (started : os.Started) (H : Type) (enc : TypeId × Value → H) (F : Stop.Interp) :
    ReturnsInHanded {} Tryz.checked os 4 .any ((Rows.OpenSpec.upto Rows.mendTakesSpec).pre6 enc Tryz.prog Tryz.f4 Rows.mendTakesUptoRow.domain false) (((Rows.OpenSpec.upto Rows.mendTakesSpec).at F).post enc Tryz.prog Tryz.f4 false true false false) := by
  refine returnsInHanded_of_cond_sized (C := Tryz.checked) (s := Rows.OpenSpec.upto Rows.mendTakesSpec) (k := Rows.uptoSmall) rfl Facts.own started (by kernel_rfl) Tryz.func4
    (OpenSpec.witness (enc := enc) (C := Tryz.checked) (s := Rows.OpenSpec.upto Rows.mendTakesSpec) (k := Rows.uptoSmall) rfl false ⟨#[], #[.slice none 0 0, .slice none 0 0], []⟩ 8 (by kernel_rfl) (by kernel_rfl) (by kernel_rfl)
      (x := ([.nil, .nil], [], [])) (by kernel_rfl) rfl (by kernel_rfl)) ?_
  intro W base args ds gs before hval hW _ hk hsz _
  exact contract H enc W base args ds gs before hval hW hsz hk

theorem holds : Rows.MendTakesUptoSaid :=
  OpenClaim.holds_of_cond 4 Tryz.f4 rfl rfl rfl rfl rfl rfl rfl ⟨rfl, rfl, rfl, rfl, rfl⟩ rfl rfl rfl rfl rfl (by kernel_rfl) Tryz.func4 (by kernel_rfl)
    (of_decide_eq_true (by kernel_rfl)) (by unfold Func.isWrapper; first | (rw [if_pos (by decide +kernel)]; kernel_rfl) | (rw [if_neg (by decide +kernel)]; exact ⟨rfl, rfl⟩))
    (fun os started H enc _ F => lifted os started H enc F)
-- ROW END
end MendTakes
end Go.Proofs.YtekhaejhmlebbaaGreat
