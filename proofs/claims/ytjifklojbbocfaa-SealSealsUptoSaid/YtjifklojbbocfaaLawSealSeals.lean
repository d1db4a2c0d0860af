/-
  SealSeals (P13.1): every token, and the mark of whatever bytes, are the document's. Up to a bulk.
-/
import Derived.Test.YtjifklojbbocfaaSealAwake
import Derived.Test.YtjifklojbbocfaaSealArgs
namespace Go.Proofs.Ytjifklojbbocfaa
namespace SealSeals
open Go.ChangeShapes Go.WideShapes Go.ChangeAt Go.RowKit Num Span Ring Seal Go.Proofs.Ytjifklojbbocfaa.Code
attribute [local go_sem ↓] Go.wp_at_zero Go.wp_at_succ

set_option maxRecDepth 100000 in
set_option maxHeartbeats 1000000 in
theorem walk (w : World) (s : ByteArray) (g : Int) (hg : -9223372036854775808 ≤ g ∧ g ≤ 9223372036854775807) (hs : s.size ≤ 140737488351232) (A' : Option Addr) (c' : Nat) (l : List Sp) (hr' : Ss w w.heap.size A' l) (hbig' : l.length ≤ 140737488355328) (_hlc' : l.length ≤ c')
    (A : Option Addr) (c : Nat) (zs : List Int) (hr : Ns .u8 w w.heap.size A zs) (hby : ∀ z ∈ zs, 0 ≤ z ∧ z ≤ 255) (_hbig : zs.length ≤ 140737488355328) (_hlc : zs.length ≤ c) (hbulk : s.size + zs.length ≤ 1048576) :
    Calls Try.prog 3 #[.agg #[.string s, .int .i64 g], .slice A' l.length c', .slice A zs.length c] w fun e w' => e = .returned (.bool true) ∧ Below w.heap.size w w' := by
  have h1 := fun W (hW : Ss W W.heap.size A' l) => seal_any s hs g hg A' c' _ l rfl W hW hbig'
  have h2 := fun W (hW : Ss W W.heap.size A' l) => ref_seal_any s hs g hg A' c' _ l rfl W hW hbig'
  have h3 := fun W (hW : Ns .u8 W W.heap.size A zs) => mark_any s (by omega) A c _ zs rfl hby W hW (by omega)
  have h4 := fun W (hW : Ns .u8 W W.heap.size A zs) => ref_mark_any s (by omega) A c _ zs rfl hby W hW (by omega)
  have hml := markL_len s zs
  obtain ⟨M, hM⟩ : ∃ M, markL s zs = M := ⟨_, rfl⟩
  obtain ⟨⟨L, E⟩, hO⟩ : ∃ r, sealF s g l = r := ⟨_, rfl⟩
  obtain ⟨n, hn⟩ : ∃ n, zs.length = n := ⟨_, rfl⟩
  obtain ⟨m, hm⟩ : ∃ m, l.length = m := ⟨_, rfl⟩
  obtain ⟨k, hk⟩ : ∃ k, L.length = k := ⟨_, rfl⟩
  rw [hO, hm] at h1 h2
  rw [hn, hM] at h3 h4
  rw [hM] at hml
  rw [hn, hm]
  have hS : ∀ W, Below w.heap.size w W → Ns .u8 W W.heap.size A zs ∧ Ss W W.heap.size A' l := fun W h => ⟨(hr.below h).more h.size, (hr'.below h).more h.size⟩
  have hc : ∀ W B A c k (L : List Int), L.length = k → Ns .u8 W B A L → (convert 25 9 (.slice A k c)).run Try.prog W = .ok (.string (strOfNums L)) W := fun W B A c k L hk h => by
    subst hk
    exact run_conv_ns (P := Try.prog) W 25 5 9 Try.underlying25 Try.underlying5 Try.underlying9 c h
  obtain ⟨B, hB⟩ : ∃ B, w.heap.size = B := ⟨_, rfl⟩
  obtain ⟨W, hW⟩ : ∃ W, w.alloc (.cells #[.string s, .int .i64 g] 23) = W := ⟨_, rfl⟩
  have hb0 : Below w.heap.size w W := by rw [← hW]; exact (Below.refl _ w).alloc (Nat.le_refl _) _
  have q0 : W.cell? ⟨B, 0, none⟩ = some (.string s) := by rw [← hW, ← hB]; simp
  have q1 : W.cell? ⟨B, 1, none⟩ = some (.int .i64 g) := by rw [← hW, ← hB]; simp
  have hBW : B < W.heap.size := by rw [← hW, ← hB]; simp
  have H0 := Lib.hid (And.intro hW (And.intro hb0 (And.intro hS (And.intro hk hml))))
  have H1 := Lib.hid (And.intro h1 (And.intro h2 (And.intro h3 (And.intro h4 hc))))
  clear h1 h2 h3 h4 hc hS hb0 hW hO hr hr' hby hn hm hk hM hml
  go_enter Try.func3, Try.ntmps3
  go_wp2_with fail
  rw [H0.out.1]
  refine (H1.out.1 W (H0.out.2.2.1 W H0.out.2.1).2).mono ?_
  intro e w1 hp
  obtain ⟨A1, c1, rfl, n1, _, d1⟩ := hp.read
  rw [show (L, E).1 = L from rfl, H0.out.2.2.2.1]
  have b1 := H0.out.2.1.trans (d1.mono H0.out.2.1.size)
  have p0 := (d1.cell (p := ⟨B, 0, none⟩) hBW).trans q0
  have p1 := (d1.cell (p := ⟨B, 1, none⟩) hBW).trans q1
  have hBW1 : B < w1.heap.size := Nat.lt_of_lt_of_le hBW d1.size
  have HA := Lib.hid (And.intro b1 n1)
  clear b1 n1 d1 hp
  go_wp2_with fail
  refine (H1.out.2.1 w1 (H0.out.2.2.1 w1 HA.out.1).2).mono ?_
  rintro e w2 ⟨A2, c2, rfl, n2, _, d2⟩
  rw [show (L, E).1 = L from rfl, H0.out.2.2.2.1]
  have r0 := (d2.cell (p := ⟨B, 0, none⟩) hBW1).trans p0
  have hBW2 : B < w2.heap.size := Nat.lt_of_lt_of_le hBW1 d2.size
  have HB := Lib.hid (And.intro (HA.out.1.trans (d2.mono HA.out.1.size)) (And.intro ((HA.out.2.below d2).more d2.size) n2))
  clear d2 n2 p0 p1
  go_wp2_with fail
  have he1 : ((strOfNums L).toList == (strOfNums L).toList) = true := by simp
  have he2 : ((strOfNums M).toList == (strOfNums M).toList) = true := by simp
  have he3 : (E == E) = true := by simp
  have hkx : ∀ V, Below w2.heap.size w2 V → (convert 25 9 (.slice A1 k c1)).run Try.prog V = .ok (.string (strOfNums L)) V ∧ (convert 25 9 (.slice A2 k c2)).run Try.prog V = .ok (.string (strOfNums L)) V ∧ V.cell? ⟨B, 0, none⟩ = some (.string s) := fun V h =>
    ⟨H1.out.2.2.2.2 V _ A1 c1 k L H0.out.2.2.2.1 (HB.out.2.1.below h), H1.out.2.2.2.2 V _ A2 c2 k L H0.out.2.2.2.1 (HB.out.2.2.below h), (h.cell (p := ⟨B, 0, none⟩) hBW2).trans r0⟩
  have hw2 := hkx w2.drew ((Below.refl _ w2).drew)
  obtain ⟨x0, y0, z0⟩ := hw2
  have HK := Lib.hid hkx
  clear hkx r0
  go_region_held (fun V => V.cell? ⟨B, 0, none⟩ = some (.string s) ∧ (convert 25 9 (.slice A1 k c1)).run Try.prog V = .ok (.string (strOfNums L)) V ∧ (convert 25 9 (.slice A2 k c2)).run Try.prog V = .ok (.string (strOfNums L)) V)
    (first
      | exact ⟨z0, x0, y0⟩
      | exact ⟨z3, x3, y3⟩
      | exact ⟨z4, x4, y4⟩
      | exact ⟨z5, x5, y5⟩)
    (first
    | (go_at_call 11; refine (awake_any w2.drew).mono ?_; rintro e w3 ⟨rfl, d3⟩; have b3 : Below w2.heap.size w2 w3 := ((Below.refl _ w2).drew).trans d3; obtain ⟨x3, y3, z3⟩ := HK.out w3 b3)
    | (go_at_call 12; refine (H1.out.2.2.1 w3 (H0.out.2.2.1 w3 (HB.out.1.trans (b3.mono HB.out.1.size))).1).mono ?_; rintro e w4 ⟨A4, c4, rfl, o4, d4⟩; rw [H0.out.2.2.2.2]; have b4 := b3.trans (d4.mono b3.size); obtain ⟨x4, y4, z4⟩ := HK.out w4 b4; have n4 := own_ns o4; have m4 := H1.out.2.2.2.2 w4 _ A4 c4 8 M H0.out.2.2.2.2 n4)
    | (go_at_call 13; refine (H1.out.2.2.2.1 w4 (H0.out.2.2.1 w4 (HB.out.1.trans (b4.mono HB.out.1.size))).1).mono ?_; rintro e w5 ⟨A5, c5, rfl, o5, d5⟩; rw [H0.out.2.2.2.2]; have b5 := b4.trans (d5.mono b4.size); obtain ⟨x5, y5, z5⟩ := HK.out w5 b5; have m5 := H1.out.2.2.2.2 w5 _ A5 c5 8 M H0.out.2.2.2.2 (own_ns o5); have l5 := H1.out.2.2.2.2 w5 _ A4 c4 8 M H0.out.2.2.2.2 (n4.below d5)))
  all_goals
    have HC := Lib.hid (HB.out.1.trans (b5.mono HB.out.1.size))
    clear b3 b4 b5 d3 d4 d5 o4 o5 n4
    go_wp2_with fail
    go_ret
    exact ⟨by simp, HC.out⟩
-- ROW BEGIN
/-- What the walk gives, shut again. -/
theorem contract (H : Type) (enc : TypeId × Value → H) (W : World) (base : Nat) (args : Array Value) (ds gs : List (DataW H)) (before : List MemPlace)
    (hval : ∀ (j : Nat) t v, Try.f3.params[j]? = some t → args[j]? = some v → Value.okWide Try.prog W .any base t v)
    (hW : DataW.Whole enc Try.prog Try.f3.params.toList Rows.sealSealsSpec.vars false W args.toList ds gs before)
    (hsz : (DataW.weightsEach Try.prog (Try.f3.params.toList ++ Rows.sealSealsSpec.plain.varTypes Try.prog) (ds ++ gs)).all (· ≤ reachBytes) = true) (hk : Rows.uptoSmall H (ds ++ gs) = true) :
    Calls Try.prog 3 args W fun e W' => ∃ v, e = .returned v ∧ Rows.sealSealsSpec.post enc Try.prog Try.f3 false true false false W args v W' := by
  have hW' := hW
  obtain ⟨p, q, hA0, hV, hbef, _, _⟩ := hW
  have hA : DataW.TrodAll enc Try.prog W 0 (fun _ => true) true Try.f3.params.toList args.toList ds p := hA0
  have hA1 := hA
  rw [Try.params3] at hA hval hsz
  obtain ⟨v0, vs0, d0, ds0, p0, q0, hargs, rfl, rfl, h0, r0⟩ := trodAll_cons hA
  obtain ⟨v1, vs1, d1, ds1, p1, q1, rfl, rfl, rfl, h1, r1⟩ := trodAll_cons r0
  obtain ⟨v2, vs2, d2, ds2, p2, q2, rfl, rfl, rfl, h2, r2⟩ := trodAll_cons r1
  obtain ⟨rfl, rfl, rfl⟩ := trodAll_nil r2
  obtain rfl : args = #[v0, v1, v2] := by cases args; simp_all
  obtain ⟨rfl, rfl⟩ := trodVars_none hV
  clear hA hargs
  obtain ⟨a0, g0, rfl, w0, b0, u0⟩ := Seal.arg_key (hval 0 23 v0 rfl rfl) h0 (Wgt.wt_arg hsz (j := 0) rfl rfl)
  obtain ⟨A1, c1, a1, rfl, n1, l1, o1⟩ := Span.open_ss Try.underlying24 Try.underlying45 (by kernel_rfl) Span.cells_span Try.underlying3 Try.underlying2 Try.underlying2 (hval 1 24 v1 rfl rfl) h1
  have b1 := Span.reach_ss hsz (j := 1) rfl rfl Try.underlying24 Span.bytes_span l1 o1
  obtain ⟨A2, c2, a2, rfl, n2, w2, l2, _, o2⟩ := open_ns Try.underlying25 Try.underlying5 Facts.cells5 (hval 2 25 v2 rfl rfl) h2
  have b2 := reach_ns hsz (j := 2) rfl rfl Try.underlying25 Facts.bytes5 l2 o2
  have hbulk : a0.size + a2.length ≤ 1048576 := by
    have h := Bulk.bound hk
    have e0 := Seal.key_le u0
    have e2 := Bulk.ns_le (H := H) o2 l2
    simp only [List.append_nil, Rows.uptoBulkAll] at h
    omega
  refine (walk W a0 g0 (wf_int w0) b0 A1 c1 a1 n1 (by omega) l1 A2 c2 a2 n2 (fun z hz => wf_byte (w2 z hz)) (by omega) l2 hbulk).mono fun e W' ⟨he, hb⟩ => ?_
  subst he
  exact ⟨_, rfl, law_post Facts.laid (by rfl) Try.underlying4 (by rw [Try.params3]; decide +kernel) hW' hA1 rfl hbef rfl rfl rfl hb⟩

set_option maxRecDepth 100000 in
theorem lifted (os : Os) (started : os.Started) (H : Type) (enc : TypeId × Value → H) (F : Stop.Interp) :
    ReturnsInHanded {} Try.checked os 3 .any ((Rows.OpenSpec.upto Rows.sealSealsSpec).pre6 enc Try.prog Try.f3 Rows.sealSealsUptoRow.domain false) (((Rows.OpenSpec.upto Rows.sealSealsSpec).at F).post enc Try.prog Try.f3 false true false false) := by
  refine returnsInHanded_of_cond_sized (C := Try.checked) (s := Rows.OpenSpec.upto Rows.sealSealsSpec) (k := Rows.uptoSmall) rfl Facts.own started (by kernel_rfl) Try.func3
    (OpenSpec.witness (enc := enc) (C := Try.checked) (s := Rows.OpenSpec.upto Rows.sealSealsSpec) (k := Rows.uptoSmall) rfl false ⟨#[], #[.agg #[.string ⟨#[]⟩, .int .i64 0], .slice none 0 0, .slice none 0 0], []⟩ 8 (by kernel_rfl) (by kernel_rfl) (by kernel_rfl)
      (x := ([.agg [.lit (.string []), .lit (.int .i64 0)], .nil, .nil], [], [])) (by kernel_rfl) rfl (by kernel_rfl)) ?_
  intro W base args ds gs before hval hW _ hk hsz _
  exact contract H enc W base args ds gs before hval hW hsz hk

theorem holds : Rows.SealSealsUptoSaid :=
  OpenClaim.holds_of_cond 3 Try.f3 rfl rfl rfl rfl rfl rfl rfl ⟨rfl, rfl, rfl, rfl, rfl⟩ rfl rfl rfl rfl rfl (by kernel_rfl) Try.func3 (by kernel_rfl)
    (of_decide_eq_true (by kernel_rfl)) (by unfold Func.isWrapper; first | (rw [if_pos (by decide +kernel)]; kernel_rfl) | (rw [if_neg (by decide +kernel)]; exact ⟨rfl, rfl⟩))
    (fun os started H enc _ F => lifted os started H enc F)
-- ROW END
end SealSeals
end Go.Proofs.Ytjifklojbbocfaa
