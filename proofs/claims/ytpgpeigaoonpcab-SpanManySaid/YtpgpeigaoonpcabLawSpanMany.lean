/-
  SpanMany (P3.2): a set of as many spans as there may be takes no more, but dots that are in it, or that bring two together. For every input.
-/
import Derived.Test.YtpgpeigaoonpcabSpanAwake
import Derived.Test.YtpgpeigaoonpcabSpanRow
namespace Go.Proofs.Ytpgpeigaoonpcab
namespace SpanMany
open Go.ChangeShapes Go.WideShapes Go.ChangeAt Go.RowKit Span
attribute [local go_sem ↓] Go.wp_at_zero Go.wp_at_succ

theorem post_read {L : List Sp} {E : Int} {k : Nat} (hk : L.length = k) (w : World) (e : Ending) (w' : World) (h : JoinPost L E w e w') :
    ∃ A c, e = .returned (.tuple #[.slice A k c, .int .i64 E]) ∧ Ss w' w'.heap.size A L ∧ Below w.heap.size w w' := by
  obtain ⟨A, c, rfl, o, b⟩ := h
  exact ⟨A, c, by rw [hk], own_ss o, b⟩

/-- Span number i, dots apart. -/
def oneF (g : Int) (i : Nat) : Sp := (3, 1 + (i : Int) * (g + 2), 1 + (i : Int) * (g + 2))
def manyF (g : Int) (n : Nat) : List Sp := (List.range n).map (oneF g)
theorem many_len (g : Int) (n : Nat) : (manyF g n).length = n := by simp [manyF]
theorem many_succ (g : Int) (n : Nat) : manyF g (n + 1) = manyF g n ++ [oneF g n] := by simp [manyF, List.range_succ]
theorem mul_bound {g : Int} (h0 : 0 ≤ g) (h1 : g ≤ 255) {i : Int} (hi0 : 0 ≤ i) (hi : i ≤ 1024) : 0 ≤ i * (g + 2) ∧ i * (g + 2) ≤ 263168 := by
  refine ⟨Int.mul_nonneg hi0 (by omega), ?_⟩
  have h2 : i * (g + 2) ≤ 1024 * (g + 2) := Int.mul_le_mul_of_nonneg_right hi (by omega)
  omega
theorem mul_step {g : Int} (h0 : 0 ≤ g) {i j : Nat} (h : i < j) : (i : Int) * (g + 2) + 2 ≤ (j : Int) * (g + 2) := by
  have h1 : ((i : Int) + 1) * (g + 2) ≤ (j : Int) * (g + 2) := Int.mul_le_mul_of_nonneg_right (by omega) (by omega)
  have h2 : ((i : Int) + 1) * (g + 2) = (i : Int) * (g + 2) + (g + 2) := by rw [Int.add_mul, Int.one_mul]
  omega
theorem many_right {g : Int} (h0 : 0 ≤ g) (h1 : g ≤ 255) : Right (manyF g 1024) := by
  refine ⟨by rw [many_len]; exact Nat.le_refl _, fun x hx => ?_, ?_⟩
  · obtain ⟨i, hi, rfl⟩ := List.mem_map.1 hx
    have := mul_bound h0 h1 (i := (i : Int)) (by omega) (by have := List.mem_range.1 hi; omega)
    unfold okSp oneF
    simp only
    omega
  · unfold manyF
    rw [List.pairwise_map]
    refine List.Pairwise.imp (fun {i j} h => ?_) List.pairwise_lt_range
    have := mul_step h0 h
    refine .inr ⟨rfl, ?_⟩
    show 1 + (i : Int) * (g + 2) + 1 < 1 + (j : Int) * (g + 2)
    omega
theorem many_has {g : Int} (h0 : 0 ≤ g) (h1 : g ≤ 255) {r : Int} (hr0 : 0 ≤ r) (hr : r < 1024) : addE (manyF g 1024) (3, 1 + r * (g + 2)) = 0 ∧ addL (manyF g 1024) (3, 1 + r * (g + 2)) = manyF g 1024 := by
  have hb := mul_bound h0 h1 hr0 (by omega)
  have hd : okDot (3, 1 + r * (g + 2)) := by unfold okDot; simp only; omega
  have hR := many_right h0 h1
  have h1' : Right [(3, 1 + r * (g + 2), 1 + r * (g + 2))] := by
    refine ⟨by simp, fine_one ?_⟩
    unfold okSp
    simp only
    omega
  have hj : IsJoin (manyF g 1024) [(3, 1 + r * (g + 2), 1 + r * (g + 2))] (manyF g 1024) := by
    refine ⟨hR.2, fun s n => ⟨.inl, fun h => h.elim id fun h => ?_⟩⟩
    obtain ⟨e1, e2, e3⟩ := (mem_one _ _ _).1 h
    simp only at e1 e2 e3
    refine ⟨oneF g r.toNat, List.mem_map.2 ⟨r.toNat, List.mem_range.2 (by omega), rfl⟩, ?_⟩
    have hrn : ((r.toNat : Nat) : Int) = r := by omega
    unfold oneF inSp
    rw [hrn]
    simp only
    omega
  have hg := join_good hR h1' hj hR.1
  rw [add_good hd, addE_good hd]
  exact hg

set_option maxHeartbeats 2000000 in
set_option maxRecDepth 100000 in
theorem walk (w : World) (g : Int) (hg : 0 ≤ g ∧ g ≤ 255) (t : Int) (ht : (Lit.int .u16 t).wf = true) (s n : Int) (_hs : -9223372036854775808 ≤ s ∧ s ≤ 9223372036854775807) (_hn : -9223372036854775808 ≤ n ∧ n ≤ 9223372036854775807) :
    Calls Try.prog 10 #[.int .u8 g, .int .u16 t, .agg #[.int .i64 s, .int .i64 n]] w fun e w' => e = .returned (.bool true) ∧ Below w.heap.size w w' := by
  have ht' : 0 ≤ t ∧ t ≤ 65535 := by simpa [Lit.wf, IntKind.min, IntKind.max, IntKind.signed, IntKind.bits] using ht
  obtain ⟨t0, t1⟩ := ht'
  obtain ⟨g0, g1⟩ := hg
  obtain ⟨info, hi, hz, hsize, hby⟩ := info_span
  have HI := Lib.hid (And.intro hi (And.intro hz (And.intro hsize hby)))
  have hb1 := (Below.refl w.heap.size w).alloc (Nat.le_refl _) (.cells #[.int .i64 s, .int .i64 n] 33)
  have q0 : (w.alloc (.cells #[.int .i64 s, .int .i64 n] 33)).cell? ⟨w.heap.size, 0, none⟩ = some (.int .i64 s) := by simp
  have q1 : (w.alloc (.cells #[.int .i64 s, .int .i64 n] 33)).cell? ⟨w.heap.size, 1, none⟩ = some (.int .i64 n) := by simp
  have sA : (w.alloc (.cells #[.int .i64 s, .int .i64 n] 33)).heap.size = w.heap.size + 1 := by simp
  obtain ⟨W, hW⟩ : ∃ W, w.alloc (.cells #[.int .i64 s, .int .i64 n] 33) = W := ⟨_, rfl⟩
  rw [hW] at hb1 q0 q1 sA
  clear hi hz hsize hby ht
  go_enter Try.func10, Try.ntmps10
  go_wp2_with fail
  refine (awake_any W).mono ?_
  rintro e w0 ⟨rfl, b0⟩
  have HB0 := Lib.hid b0
  clear b0
  go_wp2
  go_loopw [9, 10] (fun v q wr => ∃ (i : Nat) (Ao : Option Addr) (co : Nat), i ≤ 1024 ∧ q = .int .i64 i ∧ v = .slice Ao i co ∧ Hid (wr.ownsRow W.heap.size 52 3 (.slice Ao i co) i (sps (manyF g i))) ∧ Hid (Below W.heap.size W wr)) (fun _ q _ => 1024 - (intOf q).toNat)
  case atStart => exact ⟨0, none, 0, by omega, rfl, rfl, World.ownsRow_nil _ _ _ _, HB0⟩
  case round =>
    obtain ⟨i, Ao, co, hi1, rfl, rfl, ho, hb⟩ := hrel
    clear HB0
    by_cases hlt : i < 1024
    · have hm := mul_bound g0 g1 (i := (i : Int)) (by omega) (by omega)
      obtain ⟨m0, m1⟩ := hm
      have hbs := hb.out.size
      go_wp2_with (at_builtin; refine wpList_append_sp _ rfl _ _ _ rfl W.heap.size 52 info _ 24 Try.underlying31 HI.out.1 HI.out.2.1 HI.out.2.2.1 HI.out.2.2.2 rfl _ i (manyF g i) rfl ho.out (3, 1 + (i : Int) * (g + 2), 1 + (i : Int) * (g + 2)) 1 rfl (by omega) (by omega) hbs ?_; intro v2 w2 o2 g2 _; obtain ⟨A2, c2, rfl⟩ := own_form o2)
      have o3 : w2.ownsRow W.heap.size 52 3 (.slice A2 (i + 1) c2) (i + 1) (sps (manyF g (i + 1))) := by rw [many_succ]; exact o2
      exact ⟨⟨i + 1, A2, c2, by omega, rfl, rfl, Lib.hid o3, Lib.hid (hb.out.grown g2 hbs (fun x hx => (ho.out.lt x hx).1))⟩, by simp only [intOf]; omega⟩
    · have hie : i = 1024 := by omega
      subst hie
      have hR := many_right g0 g1
      have hk := many_len g 1024
      obtain ⟨r, hr⟩ : ∃ r, t.tmod 1024 = r := ⟨_, rfl⟩
      have hr2 : 0 ≤ r ∧ r < 1024 := by rw [← hr]; exact ⟨Int.tmod_nonneg _ t0, Int.tmod_lt_of_pos _ (by omega)⟩
      have hh := many_has g0 g1 hr2.1 hr2.2
      have hm := mul_bound g0 g1 (i := r) hr2.1 (by omega)
      obtain ⟨m0, m1⟩ := hm
      obtain ⟨r0, r1⟩ := hr2
      obtain ⟨L, hL⟩ : ∃ L, manyF g 1024 = L := ⟨_, rfl⟩
      have ho' := ho.out
      rw [hL] at hR hk hh ho'
      have n1 : Ss wr wr.heap.size Ao L := own_ss (n := 1024) (by rw [hk]; exact ho')
      have hbw := hb1.trans (hb.out.mono hb1.size)
      have p0 := cell_below hb.out (by show w.heap.size < W.heap.size; omega) q0
      have p1 := cell_below hb.out (by show w.heap.size < W.heap.size; omega) q1
      have hws : w.heap.size < wr.heap.size := by have := hb.out.size; omega
      have h1 := fun A c W' h => add_any A c 1024 L hk s n W' h (by omega)
      have h2 := fun A c W' h => ref_add_any A c 1024 L hk s n W' h (by omega)
      have h3 := fun A c W' h => add_any A c 1024 L hk 3 (1 + r * (g + 2)) W' h (by omega)
      rw [hh.1, hh.2] at h3
      have h4 := fun A c W' h => right_any A c 1024 L hk W' h (by omega)
      rw [decide_eq_true hR] at h4
      have hX := addL_len L (s, n)
      obtain ⟨E, hE⟩ : ∃ E, addE L (s, n) = E := ⟨_, rfl⟩
      obtain ⟨X, hX0⟩ : ∃ X, addL L (s, n) = X := ⟨_, rfl⟩
      rw [hE, hX0] at h1 h2
      rw [hX0] at hX
      have h5 := fun A A' c c' W' h h' => same_any A A' c c' X.length X.length X X rfl rfl W' h h' (by omega) (by omega)
      have h6 := fun A A' c c' W' h h' => same_any A A' c c' 1024 1024 L L hk hk W' h h' (by omega) (by omega)
      rw [show decide (X = X) = true from decide_eq_true rfl] at h5
      rw [show decide (L = L) = true from decide_eq_true rfl] at h6
      obtain ⟨k, hkx⟩ : ∃ k, X.length = k := ⟨_, rfl⟩
      have HJ1 := Lib.hid (post_read (E := E) hkx)
      have HJ3 := Lib.hid (post_read (E := 0) hk)
      rw [hkx] at h5
      have H1 := Lib.hid h1
      have H2 := Lib.hid h2
      have H3 := Lib.hid h3
      have H4 := Lib.hid h4
      have H5 := Lib.hid h5
      have H6 := Lib.hid h6
      clear h1 h2 h3 h4 h5 h6 hR hk hh ho' hX hE hX0 hkx hL ho hb hb1 q0 q1 sA hW HI
      go_wp2_with fail
      refine (H1.out Ao co wr n1).mono ?_
      intro e w2 hp
      obtain ⟨A2, c2, rfl, n2, b2⟩ := HJ1.out _ _ _ hp
      have n1b := (n1.below b2).more b2.size
      have hb2 := hbw.trans (b2.mono (Nat.le_of_lt hws))
      have p0b := cell_below b2 hws p0
      have p1b := cell_below b2 hws p1
      clear hp b2 hbw n1 p0 p1 hws
      go_wp2_with fail
      refine (H2.out Ao co w2 n1b).mono ?_
      intro e w3 hp
      obtain ⟨A3, c3, rfl, n3, b3⟩ := HJ1.out _ _ _ hp
      have n1c := (n1b.below b3).more b3.size
      have n2c := (n2.below b3).more b3.size
      have hb3 := hb2.trans (b3.mono hb2.size)
      clear hp b3 hb2 n1b n2 p0b p1b
      go_wp2_with fail
      refine (H3.out Ao co w3 n1c).mono ?_
      intro e w4 hp
      obtain ⟨A4, c4, rfl, n4, b4⟩ := HJ3.out _ _ _ hp
      have n1d := (n1c.below b4).more b4.size
      have n2d := (n2c.below b4).more b4.size
      have n3d := (n3.below b4).more b4.size
      have hb4 := hb3.trans (b4.mono hb3.size)
      clear hp b4 hb3 n1c n2c n3
      go_wp2_with fail
      refine (H4.out Ao co w4 n1d).mono ?_
      rintro e w5 ⟨rfl, b5⟩
      have n1e := (n1d.below b5).more b5.size
      have n2e := (n2d.below b5).more b5.size
      have n3e := (n3d.below b5).more b5.size
      have n4e := (n4.below b5).more b5.size
      have hb5 := hb4.trans (b5.mono hb4.size)
      clear b5 hb4 n1d n2d n3d n4
      go_wp2_with fail
      refine (H5.out A2 A3 c2 c3 w5 n2e n3e).mono ?_
      rintro e w6 ⟨rfl, b6⟩
      have n1f := (n1e.below b6).more b6.size
      have n4f := (n4e.below b6).more b6.size
      have hb6 := hb5.trans (b6.mono hb5.size)
      clear b6 hb5 n1e n2e n3e n4e
      go_wp2_with fail
      refine (H6.out A4 Ao c4 co w6 n4f n1f).mono ?_
      rintro e w7 ⟨rfl, b7⟩
      have hb7 := hb6.trans (b7.mono hb6.size)
      clear b7 hb6 n1f n4f
      go_wp2
      go_ret
      exact ⟨rfl, hb7⟩
-- ROW BEGIN
/-- What the walk gives, shut again. -/
theorem contract (H : Type) (enc : TypeId × Value → H) (W : World) (base : Nat) (args : Array Value) (ds gs : List (DataW H)) (before : List MemPlace)
    (hval : ∀ (j : Nat) t v, Try.f10.params[j]? = some t → args[j]? = some v → Value.okWide Try.prog W .any base t v)
    (hW : DataW.Whole enc Try.prog Try.f10.params.toList Rows.spanManySpec.vars false W args.toList ds gs before)
    (hsz : (DataW.weightsEach Try.prog (Try.f10.params.toList ++ Rows.spanManySpec.plain.varTypes Try.prog) (ds ++ gs)).all (· ≤ reachBytes) = true) :
    Calls Try.prog 10 args W fun e W' => ∃ v, e = .returned v ∧ Rows.spanManySpec.post enc Try.prog Try.f10 false true false false W args v W' := by
  have hW' := hW
  obtain ⟨p, q, hA0, hV, hbef, _, _⟩ := hW
  have hA : DataW.TrodAll enc Try.prog W 0 (fun _ => true) true Try.f10.params.toList args.toList ds p := hA0
  have hA1 := hA
  rw [Try.params10] at hA hval hsz
  obtain ⟨v0, vs0, d0, ds0, p0, q0, hargs, rfl, rfl, h0, r0⟩ := trodAll_cons hA
  obtain ⟨v1, vs1, d1, ds1, p1, q1, rfl, rfl, rfl, h1, r1⟩ := trodAll_cons r0
  obtain ⟨v2, vs2, d2, ds2, p2, q2, rfl, rfl, rfl, h2, r2⟩ := trodAll_cons r1
  obtain ⟨rfl, rfl, rfl⟩ := trodAll_nil r2
  obtain rfl : args = #[v0, v1, v2] := by cases args; simp_all
  obtain ⟨rfl, rfl⟩ := trodVars_none hV
  clear hA hargs
  obtain ⟨a0, rfl, rfl, _, w0⟩ := open_int Try.underlying5 (hval 0 5 v0 rfl rfl) h0
  obtain ⟨a1, rfl, rfl, _, w1⟩ := open_int Try.underlying50 (hval 1 50 v1 rfl rfl) h1
  obtain ⟨a2, z2, rfl, w2, x2⟩ := Span.open_dot Try.underlying33 (by kernel_rfl) Span.cells_dot Try.underlying3 Try.underlying2 (hval 2 33 v2 rfl rfl) h2
  refine (walk W a0 (wf_byte w0) a1 w1 a2 z2 (wf_int w2) (wf_int x2)).mono fun e W' ⟨he, hb⟩ => ?_
  subst he
  exact ⟨_, rfl, law_post Facts.laid (by rfl) Try.underlying4 (by rw [Try.params10]; decide +kernel) hW' hA1 rfl hbef rfl rfl rfl hb⟩

set_option maxRecDepth 100000 in
theorem lifted (os : Os) (started : os.Started) (H : Type) (enc : TypeId × Value → H) :
    ReturnsInHanded {} Try.checked os 10 .any (Rows.spanManySpec.pre6 enc Try.prog Try.f10 Rows.spanManyRow.domain false) (Rows.spanManySpec.post enc Try.prog Try.f10 false true false false) := by
  refine returnsInHanded_of_change_sized (C := Try.checked) Facts.own started (by kernel_rfl) Try.func10
    (ChangeSpec.witness6 (enc := enc) (C := Try.checked) false ⟨#[], #[.int .u8 0, .int .u16 0, .agg #[.int .i64 0, .int .i64 0]], []⟩ 8 (by kernel_rfl) (by kernel_rfl) (by kernel_rfl) (by kernel_rfl)) ?_
  intro W base args ds gs before hval hW _ hsz _
  exact contract H enc W base args ds gs before hval hW hsz

theorem holds : Rows.SpanManySaid :=
  OpenClaim.holds_of_wide 10 Try.f10 rfl rfl rfl rfl rfl rfl rfl ⟨rfl, rfl, rfl, rfl, rfl⟩ rfl rfl rfl rfl rfl (by kernel_rfl) Try.func10 (by kernel_rfl)
    (of_decide_eq_true (by kernel_rfl)) (by unfold Func.isWrapper; first | (rw [if_pos (by decide +kernel)]; kernel_rfl) | (rw [if_neg (by decide +kernel)]; exact ⟨rfl, rfl⟩))
    (fun os started H enc _ => lifted os started H enc)
-- ROW END
end SpanMany
end Go.Proofs.Ytpgpeigaoonpcab
