/-
  SealOnly (P13.3): bytes that are opened are just the token of what they are opened as. Up to a bulk.
-/
import Derived.Test.YtjifklojbbocfaaSealAwake
import Derived.Test.YtjifklojbbocfaaSealArgs
import Derived.Test.YtjifklojbbocfaaSealMore
namespace Go.Proofs.Ytjifklojbbocfaa
namespace SealOnly
open Go.ChangeShapes Go.WideShapes Go.ChangeAt Go.RowKit Num Span Ring Seal Go.Proofs.Ytjifklojbbocfaa.Code
attribute [local go_sem ↓] Go.wp_at_zero Go.wp_at_succ

set_option maxRecDepth 100000 in
set_option maxHeartbeats 1000000 in
theorem walk (w : World) (s : ByteArray) (g : Int) (hg : -9223372036854775808 ≤ g ∧ g ≤ 9223372036854775807) (hs : s.size ≤ 140737488351232) (A : Option Addr) (c : Nat) (zs : List Int) (hr : Ns .u8 w w.heap.size A zs) (hby : ∀ z ∈ zs, 0 ≤ z ∧ z ≤ 255) (_hbig : zs.length ≤ 140737488355328) (hlc : zs.length ≤ c) (hbulk : s.size + zs.length ≤ 1048576) :
    Calls Try.prog 6 #[.agg #[.string s, .int .i64 g], .slice A zs.length c] w fun e w' => e = .returned (.bool true) ∧ Below w.heap.size w w' := by
  have h1 := fun W (hW : Ns .u8 W W.heap.size A zs) => open_any s hs g A c _ zs rfl W hW hby hlc (by omega)
  have hle := open_small (s := s) (g := g) hby
  have hE1 := open_err (s := s) (g := g) (zs := zs)
  have hE2 := open_zero (s := s) (g := g) (zs := zs)
  have hE3 := open_only (s := s) (g := g) (zs := zs) hby
  obtain ⟨⟨l, E⟩, hO⟩ : ∃ r, openF s g zs = r := ⟨_, rfl⟩
  rw [hO] at h1 hle hE1 hE2 hE3
  simp only at hle hE1 hE2 hE3
  have h2 := fun (A' : Option Addr) (c' m : Nat) (hm : l.length = m) W (hW : Ss W W.heap.size A' l) => seal_any s hs g hg A' c' m l hm W hW (by omega)
  obtain ⟨n, hn⟩ : ∃ n, zs.length = n := ⟨_, rfl⟩
  obtain ⟨m, hm⟩ : ∃ m, l.length = m := ⟨_, rfl⟩
  rw [hn] at h1 hE2 hE3 ⊢
  have hS : ∀ W, Below w.heap.size w W → Ns .u8 W W.heap.size A zs := fun W h => (hr.below h).more h.size
  obtain ⟨B, hB⟩ : ∃ B, w.heap.size = B := ⟨_, rfl⟩
  obtain ⟨W, hW⟩ : ∃ W, w.alloc (.cells #[.string s, .int .i64 g] 23) = W := ⟨_, rfl⟩
  have hb0 : Below w.heap.size w W := by rw [← hW]; exact (Below.refl _ w).alloc (Nat.le_refl _) _
  have q0 : W.cell? ⟨B, 0, none⟩ = some (.string s) := by rw [← hW, ← hB]; simp
  have q1 : W.cell? ⟨B, 1, none⟩ = some (.int .i64 g) := by rw [← hW, ← hB]; simp
  have hBW : B < W.heap.size := by rw [← hW, ← hB]; simp
  have H0 := Lib.hid (And.intro hW (And.intro hb0 (And.intro hS (And.intro hm hn))))
  have H1 := Lib.hid h1
  have hcase : (E ≠ 0 ∧ m = 0) ∨ (E = 0 ∧ n = 0 ∧ m = 0) ∨ (E = 0 ∧ 0 < n) := by
    by_cases he : E = 0
    · rcases Nat.eq_zero_or_pos n with h0 | h0
      · exact .inr (.inl ⟨he, h0, by rw [← hm, hE2 h0]; rfl⟩)
      · exact .inr (.inr ⟨he, h0⟩)
    · exact .inl ⟨he, by rw [← hm, hE1 he]; rfl⟩
  have H2 := Lib.hid (And.intro h2 hE3)
  clear h1 h2 hE1 hE2 hE3 hS hb0 hW hO hr hby hn hle hm
  rcases hcase with ⟨hE, hm0⟩ | ⟨rfl, hn0, hm0⟩ | ⟨rfl, hn0⟩
  · have e1 : (E != 0) = true := by simpa using hE
    clear hE
    go_enter Try.func6, Try.ntmps6
    go_wp2_with fail
    rw [H0.out.1]
    refine (H1.out W (H0.out.2.2.1 W H0.out.2.1)).mono ?_
    rintro e w1 ⟨A1, c1, rfl, o1, d1⟩
    rw [show (l, E).1 = l from rfl, H0.out.2.2.2.1]
    have HA := Lib.hid (H0.out.2.1.trans (d1.mono H0.out.2.1.size))
    clear o1 d1
    go_wp2_with fail
    refine (awake_any w1).mono ?_
    rintro e w2 ⟨rfl, d2⟩
    have HB := Lib.hid (HA.out.trans (d2.mono HA.out.size))
    clear d2
    go_wp2_with fail
    refine (awake_any w2).mono ?_
    rintro e w3 ⟨rfl, d3⟩
    have HC := Lib.hid (HB.out.trans (d3.mono HB.out.size))
    clear d3
    subst hm0
    go_wp2_with fail
    go_ret
    exact ⟨rfl, HC.out⟩
  · subst hn0
    subst hm0
    go_enter Try.func6, Try.ntmps6
    go_wp2_with fail
    rw [H0.out.1]
    refine (H1.out W (H0.out.2.2.1 W H0.out.2.1)).mono ?_
    rintro e w1 ⟨A1, c1, rfl, o1, d1⟩
    rw [show (l, (0 : Int)).1 = l from rfl, H0.out.2.2.2.1]
    have HA := Lib.hid (H0.out.2.1.trans (d1.mono H0.out.2.1.size))
    clear o1 d1
    go_wp2_with fail
    refine (awake_any w1).mono ?_
    rintro e w2 ⟨rfl, d2⟩
    have HB := Lib.hid (HA.out.trans (d2.mono HA.out.size))
    clear d2
    go_wp2_with fail
    refine (awake_any w2).mono ?_
    rintro e w3 ⟨rfl, d3⟩
    have HC := Lib.hid (HB.out.trans (d3.mono HB.out.size))
    clear d3
    go_wp2_with fail
    go_ret
    exact ⟨rfl, HC.out⟩
  · have hnz : ((n : Int) == 0) = false := by simp; omega
    go_enter Try.func6, Try.ntmps6
    go_wp2_with fail
    rw [H0.out.1]
    refine (H1.out W (H0.out.2.2.1 W H0.out.2.1)).mono ?_
    rintro e w1 ⟨A1, c1, rfl, o1, d1⟩
    rw [show (l, (0 : Int)).1 = l from rfl, H0.out.2.2.2.1]
    have HA := Lib.hid (And.intro (H0.out.2.1.trans (d1.mono H0.out.2.1.size)) (own_ss o1))
    have p0 := (d1.cell (p := ⟨B, 0, none⟩) hBW).trans q0
    have p1 := (d1.cell (p := ⟨B, 1, none⟩) hBW).trans q1
    have hBW1 : B < w1.heap.size := Nat.lt_of_lt_of_le hBW d1.size
    clear o1 d1
    go_wp2_with fail
    refine (awake_any w1).mono ?_
    rintro e w2 ⟨rfl, d2⟩
    have HB := Lib.hid (And.intro (HA.out.1.trans (d2.mono HA.out.1.size)) ((HA.out.2.below d2).more d2.size))
    have r0 := (d2.cell (p := ⟨B, 0, none⟩) hBW1).trans p0
    have r1 := (d2.cell (p := ⟨B, 1, none⟩) hBW1).trans p1
    clear d2
    go_wp2_with fail
    refine (H2.out.1 A1 c1 m H0.out.2.2.2.1 w2 HB.out.2).mono ?_
    intro e w3 hp
    rw [H2.out.2 (by omega) (by simp)] at hp
    obtain ⟨A3, c3, rfl, n3, _, d3⟩ := hp.read
    have b3 := HB.out.1.trans (d3.mono HB.out.1.size)
    have k1 := run_conv_ns (P := Try.prog) w3 25 5 9 Try.underlying25 Try.underlying5 Try.underlying9 c3 n3
    have k2 := run_conv_ns (P := Try.prog) w3 25 5 9 Try.underlying25 Try.underlying5 Try.underlying9 c (H0.out.2.2.1 w3 b3)
    rw [show (zs, (0 : Int)).1 = zs from rfl, H0.out.2.2.2.2] at k1 ⊢
    rw [H0.out.2.2.2.2] at k2
    have HC := Lib.hid b3
    clear hp n3 d3 b3
    go_wp2_with fail
    go_ret
    exact ⟨by simp, HC.out⟩
-- ROW BEGIN
/-- What the walk gives, shut again. -/
theorem contract (H : Type) (enc : TypeId × Value → H) (W : World) (base : Nat) (args : Array Value) (ds gs : List (DataW H)) (before : List MemPlace)
    (hval : ∀ (j : Nat) t v, Try.f6.params[j]? = some t → args[j]? = some v → Value.okWide Try.prog W .any base t v)
    (hW : DataW.Whole enc Try.prog Try.f6.params.toList Rows.sealOnlySpec.vars false W args.toList ds gs before)
    (hsz : (DataW.weightsEach Try.prog (Try.f6.params.toList ++ Rows.sealOnlySpec.plain.varTypes Try.prog) (ds ++ gs)).all (· ≤ reachBytes) = true) (hk : Rows.uptoSmall H (ds ++ gs) = true) :
    Calls Try.prog 6 args W fun e W' => ∃ v, e = .returned v ∧ Rows.sealOnlySpec.post enc Try.prog Try.f6 false true false false W args v W' := by
  have hW' := hW
  obtain ⟨p, q, hA0, hV, hbef, _, _⟩ := hW
  have hA : DataW.TrodAll enc Try.prog W 0 (fun _ => true) true Try.f6.params.toList args.toList ds p := hA0
  have hA1 := hA
  rw [Try.params6] at hA hval hsz
  obtain ⟨v0, vs0, d0, ds0, p0, q0, hargs, rfl, rfl, h0, r0⟩ := trodAll_cons hA
  obtain ⟨v1, vs1, d1, ds1, p1, q1, rfl, rfl, rfl, h1, r1⟩ := trodAll_cons r0
  obtain ⟨rfl, rfl, rfl⟩ := trodAll_nil r1
  obtain rfl : args = #[v0, v1] := by cases args; simp_all
  obtain ⟨rfl, rfl⟩ := trodVars_none hV
  clear hA hargs
  obtain ⟨a0, g0, rfl, w0, b0, u0⟩ := Seal.arg_key (hval 0 23 v0 rfl rfl) h0 (Wgt.wt_arg hsz (j := 0) rfl rfl)
  obtain ⟨A1, c1, a1, rfl, n1, w1, l1, _, o1⟩ := open_ns Try.underlying25 Try.underlying5 Facts.cells5 (hval 1 25 v1 rfl rfl) h1
  have b1 := reach_ns hsz (j := 1) rfl rfl Try.underlying25 Facts.bytes5 l1 o1
  have hbulk : a0.size + a1.length ≤ 1048576 := by
    have h := Bulk.bound hk
    have e0 := Seal.key_le u0
    have e1 := Bulk.ns_le (H := H) o1 l1
    simp only [List.append_nil, Rows.uptoBulkAll] at h
    omega
  refine (walk W a0 g0 (wf_int w0) b0 A1 c1 a1 n1 (fun z hz => wf_byte (w1 z hz)) (by omega) l1 hbulk).mono fun e W' ⟨he, hb⟩ => ?_
  subst he
  exact ⟨_, rfl, law_post Facts.laid (by rfl) Try.underlying4 (by rw [Try.params6]; decide +kernel) hW' hA1 rfl hbef rfl rfl rfl hb⟩

set_option maxRecDepth 100000 in
theorem lifted (os : Os) (started : os.Started) (H : Type) (enc : TypeId × Value → H) (F : Stop.Interp) :
    ReturnsInHanded {} Try.checked os 6 .any ((Rows.OpenSpec.upto Rows.sealOnlySpec).pre6 enc Try.prog Try.f6 Rows.sealOnlyUptoRow.domain false) (((Rows.OpenSpec.upto Rows.sealOnlySpec).at F).post enc Try.prog Try.f6 false true false false) := by
  refine returnsInHanded_of_cond_sized (C := Try.checked) (s := Rows.OpenSpec.upto Rows.sealOnlySpec) (k := Rows.uptoSmall) rfl Facts.own started (by kernel_rfl) Try.func6
    (OpenSpec.witness (enc := enc) (C := Try.checked) (s := Rows.OpenSpec.upto Rows.sealOnlySpec) (k := Rows.uptoSmall) rfl false ⟨#[], #[.agg #[.string ⟨#[]⟩, .int .i64 0], .slice none 0 0], []⟩ 8 (by kernel_rfl) (by kernel_rfl) (by kernel_rfl)
      (x := ([.agg [.lit (.string []), .lit (.int .i64 0)], .nil], [], [])) (by kernel_rfl) rfl (by kernel_rfl)) ?_
  intro W base args ds gs before hval hW _ hk hsz _
  exact contract H enc W base args ds gs before hval hW hsz hk

theorem holds : Rows.SealOnlyUptoSaid :=
  OpenClaim.holds_of_cond 6 Try.f6 rfl rfl rfl rfl rfl rfl rfl ⟨rfl, rfl, rfl, rfl, rfl⟩ rfl rfl rfl rfl rfl (by kernel_rfl) Try.func6 (by kernel_rfl)
    (of_decide_eq_true (by kernel_rfl)) (by unfold Func.isWrapper; first | (rw [if_pos (by decide +kernel)]; kernel_rfl) | (rw [if_neg (by decide +kernel)]; exact ⟨rfl, rfl⟩))
    (fun os started H enc _ F => lifted os started H enc F)
-- ROW END
end SealOnly
end Go.Proofs.Ytjifklojbbocfaa
