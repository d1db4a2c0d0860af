/-
  SealOpens (P13.2): whatever bytes are opened, or refused, as the document says. Up to a bulk.
-/
import Derived.Test.YtjifklojbbocfaaSealAwake
import Derived.Test.YtjifklojbbocfaaSealArgs
namespace Go.Proofs.Ytjifklojbbocfaa
namespace SealOpens
open Go.ChangeShapes Go.WideShapes Go.ChangeAt Go.RowKit Num Span Ring Seal Go.Proofs.Ytjifklojbbocfaa.Code
attribute [local go_sem ↓] Go.wp_at_zero Go.wp_at_succ

set_option maxRecDepth 100000 in
set_option maxHeartbeats 1000000 in
theorem walk (w : World) (s : ByteArray) (g : Int) (_hg : -9223372036854775808 ≤ g ∧ g ≤ 9223372036854775807) (hs : s.size ≤ 140737488351232) (A : Option Addr) (c : Nat) (zs : List Int) (hr : Ns .u8 w w.heap.size A zs) (hby : ∀ z ∈ zs, 0 ≤ z ∧ z ≤ 255) (_hbig : zs.length ≤ 140737488355328) (hlc : zs.length ≤ c) (hbulk : s.size + zs.length ≤ 1048576) :
    Calls Try.prog 4 #[.agg #[.string s, .int .i64 g], .slice A zs.length c] w fun e w' => e = .returned (.bool true) ∧ Below w.heap.size w w' := by
  have h1 := fun W (hW : Ns .u8 W W.heap.size A zs) => open_any s hs g A c _ zs rfl W hW hby hlc (by omega)
  have h2 := fun W (hW : Ns .u8 W W.heap.size A zs) => ref_open_any s hs g A c _ zs rfl W hW hby hlc (by omega)
  have hle := open_small (s := s) (g := g) hby
  obtain ⟨⟨l, E⟩, hO⟩ : ∃ r, openF s g zs = r := ⟨_, rfl⟩
  rw [hO] at h1 h2 hle
  simp only at hle
  obtain ⟨n, hn⟩ : ∃ n, zs.length = n := ⟨_, rfl⟩
  obtain ⟨m, hm⟩ : ∃ m, l.length = m := ⟨_, rfl⟩
  rw [hn] at h1 h2 ⊢
  rw [hm] at hle
  have h3 := fun A A' c c' W h h' => Span.same_any A A' c c' m m l l hm hm W h h' (by omega) (by omega)
  rw [show decide (l = l) = true from decide_eq_true rfl] at h3
  have hS : ∀ W, Below w.heap.size w W → Ns .u8 W W.heap.size A zs := fun W h => (hr.below h).more h.size
  obtain ⟨B, hB⟩ : ∃ B, w.heap.size = B := ⟨_, rfl⟩
  obtain ⟨W, hW⟩ : ∃ W, w.alloc (.cells #[.string s, .int .i64 g] 23) = W := ⟨_, rfl⟩
  have hb0 : Below w.heap.size w W := by rw [← hW]; exact (Below.refl _ w).alloc (Nat.le_refl _) _
  have q0 : W.cell? ⟨B, 0, none⟩ = some (.string s) := by rw [← hW, ← hB]; simp
  have q1 : W.cell? ⟨B, 1, none⟩ = some (.int .i64 g) := by rw [← hW, ← hB]; simp
  have hBW : B < W.heap.size := by rw [← hW, ← hB]; simp
  have H0 := Lib.hid (And.intro hW (And.intro hb0 (And.intro hS hm)))
  have H1 := Lib.hid (And.intro h1 (And.intro h2 h3))
  clear h1 h2 h3 hS hb0 hW hO hr hby hn hle hm
  go_enter Try.func4, Try.ntmps4
  go_wp2_with fail
  rw [H0.out.1]
  refine (H1.out.1 W (H0.out.2.2.1 W H0.out.2.1)).mono ?_
  rintro e w1 ⟨A1, c1, rfl, o1, d1⟩
  rw [show (l, E).1 = l from rfl, H0.out.2.2.2]
  have b1 := H0.out.2.1.trans (d1.mono H0.out.2.1.size)
  have p0 := (d1.cell (p := ⟨B, 0, none⟩) hBW).trans q0
  have p1 := (d1.cell (p := ⟨B, 1, none⟩) hBW).trans q1
  have HA := Lib.hid (And.intro b1 (own_ss o1))
  clear b1 o1 d1
  go_wp2_with fail
  refine (H1.out.2.1 w1 (H0.out.2.2.1 w1 HA.out.1)).mono ?_
  rintro e w2 ⟨A2, c2, rfl, o2, d2⟩
  rw [show (l, E).1 = l from rfl, H0.out.2.2.2]
  have HB := Lib.hid (And.intro (HA.out.1.trans (d2.mono HA.out.1.size)) (And.intro (own_ss o2) ((HA.out.2.below d2).more d2.size)))
  clear o2 d2 p0 p1
  go_wp2_with fail
  refine (awake_any w2).mono ?_
  rintro e w3 ⟨rfl, d3⟩
  have HC := Lib.hid (And.intro (HB.out.1.trans (d3.mono HB.out.1.size)) (And.intro ((HB.out.2.1.below d3).more d3.size) ((HB.out.2.2.below d3).more d3.size)))
  clear d3
  go_wp2_with fail
  refine (H1.out.2.2 A1 A2 c1 c2 w3 HC.out.2.2 HC.out.2.1).mono ?_
  rintro e w4 ⟨rfl, d4⟩
  have HD := Lib.hid (HC.out.1.trans (d4.mono HC.out.1.size))
  clear d4
  go_wp2_with fail
  go_ret
  exact ⟨rfl, HD.out⟩
-- ROW BEGIN
/-- What the walk gives, shut again. -/
theorem contract (H : Type) (enc : TypeId × Value → H) (W : World) (base : Nat) (args : Array Value) (ds gs : List (DataW H)) (before : List MemPlace)
    (hval : ∀ (j : Nat) t v, Try.f4.params[j]? = some t → args[j]? = some v → Value.okWide Try.prog W .any base t v)
    (hW : DataW.Whole enc Try.prog Try.f4.params.toList Rows.sealOpensSpec.vars false W args.toList ds gs before)
    (hsz : (DataW.weightsEach Try.prog (Try.f4.params.toList ++ Rows.sealOpensSpec.plain.varTypes Try.prog) (ds ++ gs)).all (· ≤ reachBytes) = true) (hk : Rows.uptoSmall H (ds ++ gs) = true) :
    Calls Try.prog 4 args W fun e W' => ∃ v, e = .returned v ∧ Rows.sealOpensSpec.post enc Try.prog Try.f4 false true false false W args v W' := by
  have hW' := hW
  obtain ⟨p, q, hA0, hV, hbef, _, _⟩ := hW
  have hA : DataW.TrodAll enc Try.prog W 0 (fun _ => true) true Try.f4.params.toList args.toList ds p := hA0
  have hA1 := hA
  rw [Try.params4] at hA hval hsz
  obtain ⟨v0, vs0, d0, ds0, p0, q0, hargs, rfl, rfl, h0, r0⟩ := trodAll_cons hA
  obtain ⟨v1, vs1, d1, ds1, p1, q1, rfl, rfl, rfl, h1, r1⟩ := trodAll_cons r0
  obtain ⟨rfl, rfl, rfl⟩ := trodAll_nil r1
  obtain rfl : args = #[v0, v1] := by cases args; simp_all
  obtain ⟨rfl, rfl⟩ := trodVars_none hV
  clear hA hargs
  obtain ⟨a0, g0, rfl, w0, b0, u0⟩ := Seal.arg_key (hval 0 23 v0 rfl rfl) h0 (Wgt.wt_arg hsz (j := 0) rfl rfl)
  obtain ⟨A1, c1, a1, rfl, n1, w1, l1, _, o1⟩ := open_ns Try.underlying25 Try.underlying5 Facts.cells5 (hval 1 25 v1 rfl rfl) h1
  have b1 := reach_ns hsz (j := 1) rfl rfl Try.underlying25 Facts.bytes5 l1 o1
  have hbulk : a0.size + a1.length ≤ 1048576 := by
    have h := Bulk.bound hk
    have e0 := Seal.key_le u0
    have e1 := Bulk.ns_le (H := H) o1 l1
    simp only [List.append_nil, Rows.uptoBulkAll] at h
    omega
  refine (walk W a0 g0 (wf_int w0) b0 A1 c1 a1 n1 (fun z hz => wf_byte (w1 z hz)) (by omega) l1 hbulk).mono fun e W' ⟨he, hb⟩ => ?_
  subst he
  exact ⟨_, rfl, law_post Facts.laid (by rfl) Try.underlying4 (by rw [Try.params4]; decide +kernel) hW' hA1 rfl hbef rfl rfl rfl hb⟩

set_option maxRecDepth 100000 in
theorem lifted (os : Os) (started : os.Started) (H : Type) (enc : TypeId × Value → H) (F : Stop.Interp) :
    ReturnsInHanded {} Try.checked os 4 .any ((Rows.OpenSpec.upto Rows.sealOpensSpec).pre6 enc Try.prog Try.f4 Rows.sealOpensUptoRow.domain false) (((Rows.OpenSpec.upto Rows.sealOpensSpec).at F).post enc Try.prog Try.f4 false true false false) := by
  refine returnsInHanded_of_cond_sized (C := Try.checked) (s := Rows.OpenSpec.upto Rows.sealOpensSpec) (k := Rows.uptoSmall) rfl Facts.own started (by kernel_rfl) Try.func4
    (OpenSpec.witness (enc := enc) (C := Try.checked) (s := Rows.OpenSpec.upto Rows.sealOpensSpec) (k := Rows.uptoSmall) rfl false ⟨#[], #[.agg #[.string ⟨#[]⟩, .int .i64 0], .slice none 0 0], []⟩ 8 (by kernel_rfl) (by kernel_rfl) (by kernel_rfl)
      (x := ([.agg [.lit (.string []), .lit (.int .i64 0)], .nil], [], [])) (by kernel_rfl) rfl (by kernel_rfl)) ?_
  intro W base args ds gs before hval hW _ hk hsz _
  exact contract H enc W base args ds gs before hval hW hsz hk

theorem holds : Rows.SealOpensUptoSaid :=
  OpenClaim.holds_of_cond 4 Try.f4 rfl rfl rfl rfl rfl rfl rfl ⟨rfl, rfl, rfl, rfl, rfl⟩ rfl rfl rfl rfl rfl (by kernel_rfl) Try.func4 (by kernel_rfl)
    (of_decide_eq_true (by kernel_rfl)) (by unfold Func.isWrapper; first | (rw [if_pos (by decide +kernel)]; kernel_rfl) | (rw [if_neg (by decide +kernel)]; exact ⟨rfl, rfl⟩))
    (fun os started H enc _ F => lifted os started H enc F)
-- ROW END
end SealOpens
end Go.Proofs.Ytjifklojbbocfaa
