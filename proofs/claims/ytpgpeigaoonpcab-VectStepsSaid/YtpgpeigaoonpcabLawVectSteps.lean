/-
  VectSteps (P4.3, P4.4): a site's next dot, a step on by a dot, and the set that a vector stands for are the document's. For every input.
-/
import Derived.Test.YtpgpeigaoonpcabVectAwake
import Derived.Test.YtpgpeigaoonpcabVectBump
import Derived.Test.YtpgpeigaoonpcabVectSet
import Derived.Test.YtpgpeigaoonpcabVectRow
namespace Go.Proofs.Ytpgpeigaoonpcab
namespace VectSteps
open Go.ChangeShapes Go.WideShapes Go.ChangeAt Go.RowKit Span Vect
attribute [local go_sem ↓] Go.wp_at_zero Go.wp_at_succ

theorem got_read {base : Nat} {L : List Sp} {k : Nat} (hk : L.length = k) (w : World) (e : Ending) (w' : World) (h : GotSs base L w e w') :
    ∃ A c, e = .returned (.slice A k c) ∧ Ss w' w'.heap.size A L ∧ Below base w w' := by
  obtain ⟨A, c, rfl, o, b⟩ := h
  exact ⟨A, c, by rw [hk], own_ss o, b⟩

set_option maxHeartbeats 4000000 in
theorem walk (w : World) (A : Option Addr) (c : Nat) (v : List Int) (hr : Ns .i64 w w.heap.size A v) (_hwf : ∀ z ∈ v, -9223372036854775808 ≤ z ∧ z ≤ 9223372036854775807) (hbig : v.length * 8 ≤ 140737488351232) (_hlc : v.length ≤ c)
    (s n : Int) (hs : -9223372036854775808 ≤ s ∧ s ≤ 9223372036854775807) (_hn : -9223372036854775808 ≤ n ∧ n ≤ 9223372036854775807) :
    Calls Try.prog 14 #[.slice A v.length c, .agg #[.int .i64 s, .int .i64 n]] w fun e w' => e = .returned (.bool true) ∧ Below w.heap.size w w' := by
  have hS : ∀ W, Below w.heap.size w W → Ns .i64 W W.heap.size A v := fun W h => (hr.below h).more h.size
  have h1 := fun W h => next_any A c v.length v rfl s hs W (hS W h) (by omega)
  have h2 := fun W h => ref_next_any A c v.length v rfl s hs W (hS W h) (by omega)
  have h3 := fun W h => bump_any A c v.length v rfl s n hs W (hS W h) (by omega)
  have h4 := fun W h => ref_bump_any A c v.length v rfl s n hs W (hS W h) (by omega)
  have h6 := fun W h => set_any A c v.length v rfl W (hS W h) (by omega)
  have h7 := fun W h => ref_set_any A c v.length v rfl W (hS W h) (by omega)
  have hbl := bumpL_len v s n
  have hsl : (setV v).length ≤ v.length := by
    unfold setV
    split
    · exact setTo_len v v.length
    · simp
  obtain ⟨m, hm⟩ : ∃ m, v.length = m := ⟨_, rfl⟩
  rw [hm] at h1 h2 h3 h4 h6 h7 hbl hsl hbig ⊢
  obtain ⟨⟨d1, d2, E⟩, hQ⟩ : ∃ Q, nextV v s = Q := ⟨_, rfl⟩
  rw [hQ] at h1 h2
  obtain ⟨L, hL⟩ : ∃ L, bumpL v s n = L := ⟨_, rfl⟩
  obtain ⟨F, hF⟩ : ∃ F, bumpE v s n = F := ⟨_, rfl⟩
  obtain ⟨T, hT⟩ : ∃ T, setV v = T := ⟨_, rfl⟩
  rw [hL, hF] at h3 h4
  rw [hL] at hbl
  rw [hT] at h6 h7 hsl
  have h5 := fun A A' c c' W h h' => vsame_any A A' c c' L.length L.length L L rfl rfl W h h' (by omega) (by omega)
  rw [show decide (L = L) = true from decide_eq_true rfl] at h5
  have h8 := fun A A' c c' W h h' => same_any A A' c c' T.length T.length T T rfl rfl W h h' (by omega) (by omega)
  rw [show decide (T = T) = true from decide_eq_true rfl] at h8
  obtain ⟨k, hk⟩ : ∃ k, L.length = k := ⟨_, rfl⟩
  obtain ⟨t, ht⟩ : ∃ k, T.length = k := ⟨_, rfl⟩
  have HJ := Lib.hid (vpost_read (E := F) hk)
  have HG := Lib.hid (fun b => got_read (base := b) ht)
  rw [hk] at h5
  rw [ht] at h8
  have H1 := Lib.hid h1
  have H2 := Lib.hid h2
  have H3 := Lib.hid h3
  have H4 := Lib.hid h4
  have H5 := Lib.hid h5
  have H6 := Lib.hid h6
  have H7 := Lib.hid h7
  have H8 := Lib.hid h8
  have hb1 := (Below.refl w.heap.size w).alloc (Nat.le_refl _) (.cells #[.int .i64 s, .int .i64 n] 33)
  have q0 : (w.alloc (.cells #[.int .i64 s, .int .i64 n] 33)).cell? ⟨w.heap.size, 0, none⟩ = some (.int .i64 s) := by simp
  have q1 : (w.alloc (.cells #[.int .i64 s, .int .i64 n] 33)).cell? ⟨w.heap.size, 1, none⟩ = some (.int .i64 n) := by simp
  have sA : w.heap.size < (w.alloc (.cells #[.int .i64 s, .int .i64 n] 33)).heap.size := by simp
  obtain ⟨W, hW⟩ : ∃ W, w.alloc (.cells #[.int .i64 s, .int .i64 n] 33) = W := ⟨_, rfl⟩
  rw [hW] at hb1 q0 q1 sA
  clear h1 h2 h3 h4 h5 h6 h7 h8 hbl hsl hm hQ hL hF hT hk ht hr hbig hs hS
  go_enter Try.func14, Try.ntmps14
  go_wp2_with fail
  refine (H1.out W hb1).mono ?_
  rintro e w1 ⟨rfl, b1⟩
  have q0b := cell_below b1 sA q0
  have q1b := cell_below b1 sA q1
  have sAb := Nat.lt_of_lt_of_le sA b1.size
  have hb2 := hb1.trans (b1.mono hb1.size)
  clear b1 hb1 q0 q1 sA 
  clear hW H1
  have o0W1 : (w1.alloc (.cells #[.int .i64 d1, .int .i64 d2] 33)).cell? ⟨w1.heap.size, 0, none⟩ = some (.int .i64 d1) := by simp
  have o1W1 : (w1.alloc (.cells #[.int .i64 d1, .int .i64 d2] 33)).cell? ⟨w1.heap.size, 1, none⟩ = some (.int .i64 d2) := by simp
  have hb3 := hb2.alloc hb2.size (.cells #[.int .i64 d1, .int .i64 d2] 33)
  have soW1 : w1.heap.size < (w1.alloc (.cells #[.int .i64 d1, .int .i64 d2] 33)).heap.size := by simp
  have q0ba := (World.cell?_alloc_lt w1 (.cells #[.int .i64 d1, .int .i64 d2] 33) ⟨w.heap.size, 0, none⟩ sAb).trans q0b
  have q1ba := (World.cell?_alloc_lt w1 (.cells #[.int .i64 d1, .int .i64 d2] 33) ⟨w.heap.size, 1, none⟩ sAb).trans q1b
  have sAba := Nat.lt_trans sAb soW1
  obtain ⟨W1, hhW1⟩ : ∃ W, w1.alloc (.cells #[.int .i64 d1, .int .i64 d2] 33) = W := ⟨_, rfl⟩
  rw [hhW1] at o0W1 o1W1 hb3 soW1 q0ba q1ba sAba
  clear q0b q1b sAb hb2
  go_wp2_with fail
  refine (H2.out W1 hb3).mono ?_
  rintro e w2 ⟨rfl, b2⟩
  have q0bab := cell_below b2 sAba q0ba
  have q1bab := cell_below b2 sAba q1ba
  have sAbab := Nat.lt_of_lt_of_le sAba b2.size
  have o0W1b := cell_below b2 soW1 o0W1
  have o1W1b := cell_below b2 soW1 o1W1
  have soW1b := Nat.lt_of_lt_of_le soW1 b2.size
  have hb4 := hb3.trans (b2.mono hb3.size)
  clear b2 hb3 q0ba q1ba sAba o0W1 o1W1 soW1 
  clear hhW1 H2
  have o0W2 : (w2.alloc (.cells #[.int .i64 d1, .int .i64 d2] 33)).cell? ⟨w2.heap.size, 0, none⟩ = some (.int .i64 d1) := by simp
  have o1W2 : (w2.alloc (.cells #[.int .i64 d1, .int .i64 d2] 33)).cell? ⟨w2.heap.size, 1, none⟩ = some (.int .i64 d2) := by simp
  have hb5 := hb4.alloc hb4.size (.cells #[.int .i64 d1, .int .i64 d2] 33)
  have soW2 : w2.heap.size < (w2.alloc (.cells #[.int .i64 d1, .int .i64 d2] 33)).heap.size := by simp
  have q0baba := (World.cell?_alloc_lt w2 (.cells #[.int .i64 d1, .int .i64 d2] 33) ⟨w.heap.size, 0, none⟩ sAbab).trans q0bab
  have q1baba := (World.cell?_alloc_lt w2 (.cells #[.int .i64 d1, .int .i64 d2] 33) ⟨w.heap.size, 1, none⟩ sAbab).trans q1bab
  have sAbaba := Nat.lt_trans sAbab soW2
  have o0W1ba := (World.cell?_alloc_lt w2 (.cells #[.int .i64 d1, .int .i64 d2] 33) ⟨w1.heap.size, 0, none⟩ soW1b).trans o0W1b
  have o1W1ba := (World.cell?_alloc_lt w2 (.cells #[.int .i64 d1, .int .i64 d2] 33) ⟨w1.heap.size, 1, none⟩ soW1b).trans o1W1b
  have soW1ba := Nat.lt_trans soW1b soW2
  obtain ⟨W2, hhW2⟩ : ∃ W, w2.alloc (.cells #[.int .i64 d1, .int .i64 d2] 33) = W := ⟨_, rfl⟩
  rw [hhW2] at o0W2 o1W2 hb5 soW2 q0baba q1baba sAbaba o0W1ba o1W1ba soW1ba
  clear q0bab q1bab sAbab o0W1b o1W1b soW1b hb4
  go_wp2_with fail
  refine (H3.out W2 hb5).mono ?_
  intro e w3 hp
  obtain ⟨A3, c3, rfl, n3, b3⟩ := HJ.out _ _ _ hp
  clear hp
  have q0babab := cell_below b3 sAbaba q0baba
  have q1babab := cell_below b3 sAbaba q1baba
  have sAbabab := Nat.lt_of_lt_of_le sAbaba b3.size
  have o0W1bab := cell_below b3 soW1ba o0W1ba
  have o1W1bab := cell_below b3 soW1ba o1W1ba
  have soW1bab := Nat.lt_of_lt_of_le soW1ba b3.size
  have o0W2b := cell_below b3 soW2 o0W2
  have o1W2b := cell_below b3 soW2 o1W2
  have soW2b := Nat.lt_of_lt_of_le soW2 b3.size
  have hb6 := hb5.trans (b3.mono hb5.size)
  clear b3 hb5 q0baba q1baba sAbaba o0W1ba o1W1ba soW1ba o0W2 o1W2 soW2 
  clear hhW2 H3
  go_wp2_with fail
  refine (H4.out w3 hb6).mono ?_
  intro e w4 hp
  obtain ⟨A4, c4, rfl, n4, b4⟩ := HJ.out _ _ _ hp
  clear hp
  have q0bababb := cell_below b4 sAbabab q0babab
  have q1bababb := cell_below b4 sAbabab q1babab
  have sAbababb := Nat.lt_of_lt_of_le sAbabab b4.size
  have o0W1babb := cell_below b4 soW1bab o0W1bab
  have o1W1babb := cell_below b4 soW1bab o1W1bab
  have soW1babb := Nat.lt_of_lt_of_le soW1bab b4.size
  have o0W2bb := cell_below b4 soW2b o0W2b
  have o1W2bb := cell_below b4 soW2b o1W2b
  have soW2bb := Nat.lt_of_lt_of_le soW2b b4.size
  have n3b := (n3.below b4).more b4.size
  have hb7 := hb6.trans (b4.mono hb6.size)
  clear b4 hb6 q0babab q1babab sAbabab o0W1bab o1W1bab soW1bab o0W2b o1W2b soW2b n3
  clear H4 HJ
  go_wp2_with fail
  refine (awake_v w4).mono ?_
  rintro e w5 ⟨rfl, b5⟩
  have q0bababbb := cell_below b5 sAbababb q0bababb
  have q1bababbb := cell_below b5 sAbababb q1bababb
  have sAbababbb := Nat.lt_of_lt_of_le sAbababb b5.size
  have o0W1babbb := cell_below b5 soW1babb o0W1babb
  have o1W1babbb := cell_below b5 soW1babb o1W1babb
  have soW1babbb := Nat.lt_of_lt_of_le soW1babb b5.size
  have o0W2bbb := cell_below b5 soW2bb o0W2bb
  have o1W2bbb := cell_below b5 soW2bb o1W2bb
  have soW2bbb := Nat.lt_of_lt_of_le soW2bb b5.size
  have n3bb := (n3b.below b5).more b5.size
  have n4b := (n4.below b5).more b5.size
  have hb8 := hb7.trans (b5.mono hb7.size)
  clear b5 hb7 q0bababb q1bababb sAbababb o0W1babb o1W1babb soW1babb o0W2bb o1W2bb soW2bb n3b n4
  go_wp2_with fail
  refine (H5.out A3 A4 c3 c4 w5 n3bb n4b).mono ?_
  rintro e w6 ⟨rfl, b6⟩
  have hb9 := hb8.trans (b6.mono hb8.size)
  clear b6 hb8 n3bb n4b q0bababbb q1bababbb sAbababbb o0W1babbb o1W1babbb soW1babbb o0W2bbb o1W2bbb soW2bbb H5
  go_wp2_with fail
  refine (H6.out w6 hb9).mono ?_
  intro e w7 hp
  obtain ⟨A7, c7, rfl, n7, b7⟩ := HG.out _ _ _ _ hp
  have hb10 := hb9.trans (b7.mono hb9.size)
  clear b7 hb9 hp H6
  go_wp2_with fail
  refine (H7.out w7 hb10).mono ?_
  intro e w8 hp
  obtain ⟨A8, c8, rfl, n8, b8⟩ := HG.out _ _ _ _ hp
  have n7b := (n7.below b8).more b8.size
  have hb11 := hb10.trans (b8.mono hb10.size)
  clear b8 hb10 n7 hp H7 HG
  go_wp2_with fail
  refine (H8.out A7 A8 c7 c8 w8 n7b n8).mono ?_
  rintro e w9 ⟨rfl, b9⟩
  have hb12 := hb11.trans (b9.mono hb11.size)
  clear b9 hb11 n7b n8 H8
  go_wp2
  go_ret
  exact ⟨rfl, hb12⟩
-- ROW BEGIN
/-- What the walk gives, shut again. -/
theorem contract (H : Type) (enc : TypeId × Value → H) (W : World) (base : Nat) (args : Array Value) (ds gs : List (DataW H)) (before : List MemPlace)
    (hval : ∀ (j : Nat) t v, Try.f14.params[j]? = some t → args[j]? = some v → Value.okWide Try.prog W .any base t v)
    (hW : DataW.Whole enc Try.prog Try.f14.params.toList Rows.vectStepsSpec.vars false W args.toList ds gs before)
    (hsz : (DataW.weightsEach Try.prog (Try.f14.params.toList ++ Rows.vectStepsSpec.plain.varTypes Try.prog) (ds ++ gs)).all (· ≤ reachBytes) = true) :
    Calls Try.prog 14 args W fun e W' => ∃ v, e = .returned v ∧ Rows.vectStepsSpec.post enc Try.prog Try.f14 false true false false W args v W' := by
  have hW' := hW
  obtain ⟨p, q, hA0, hV, hbef, _, _⟩ := hW
  have hA : DataW.TrodAll enc Try.prog W 0 (fun _ => true) true Try.f14.params.toList args.toList ds p := hA0
  have hA1 := hA
  rw [Try.params14] at hA hval hsz
  obtain ⟨v0, vs0, d0, ds0, p0, q0, hargs, rfl, rfl, h0, r0⟩ := trodAll_cons hA
  obtain ⟨v1, vs1, d1, ds1, p1, q1, rfl, rfl, rfl, h1, r1⟩ := trodAll_cons r0
  obtain ⟨rfl, rfl, rfl⟩ := trodAll_nil r1
  obtain rfl : args = #[v0, v1] := by cases args; simp_all
  obtain ⟨rfl, rfl⟩ := trodVars_none hV
  clear hA hargs
  obtain ⟨A0, c0, a0, rfl, n0, w0, l0, _, o0⟩ := open_ns Try.underlying54 Try.underlying2 Facts.cells2 (hval 0 54 v0 rfl rfl) h0
  have b0 := reach_ns hsz (j := 0) rfl rfl Try.underlying54 Facts.bytes2 l0 o0
  obtain ⟨a1, z1, rfl, w1, x1⟩ := Span.open_dot Try.underlying33 (by kernel_rfl) Span.cells_dot Try.underlying3 Try.underlying2 (hval 1 33 v1 rfl rfl) h1
  refine (walk W A0 c0 a0 n0 (fun z hz => wf_int (w0 z hz)) (by omega) l0 a1 z1 (wf_int w1) (wf_int x1)).mono fun e W' ⟨he, hb⟩ => ?_
  subst he
  exact ⟨_, rfl, law_post Facts.laid (by rfl) Try.underlying4 (by rw [Try.params14]; decide +kernel) hW' hA1 rfl hbef rfl rfl rfl hb⟩

set_option maxRecDepth 100000 in
theorem lifted (os : Os) (started : os.Started) (H : Type) (enc : TypeId × Value → H) :
    ReturnsInHanded {} Try.checked os 14 .any (Rows.vectStepsSpec.pre6 enc Try.prog Try.f14 Rows.vectStepsRow.domain false) (Rows.vectStepsSpec.post enc Try.prog Try.f14 false true false false) := by
  refine returnsInHanded_of_change_sized (C := Try.checked) Facts.own started (by kernel_rfl) Try.func14
    (ChangeSpec.witness6 (enc := enc) (C := Try.checked) false ⟨#[], #[.slice none 0 0, .agg #[.int .i64 0, .int .i64 0]], []⟩ 8 (by kernel_rfl) (by kernel_rfl) (by kernel_rfl) (by kernel_rfl)) ?_
  intro W base args ds gs before hval hW _ hsz _
  exact contract H enc W base args ds gs before hval hW hsz

theorem holds : Rows.VectStepsSaid :=
  OpenClaim.holds_of_wide 14 Try.f14 rfl rfl rfl rfl rfl rfl rfl ⟨rfl, rfl, rfl, rfl, rfl⟩ rfl rfl rfl rfl rfl (by kernel_rfl) Try.func14 (by kernel_rfl)
    (of_decide_eq_true (by kernel_rfl)) (by unfold Func.isWrapper; first | (rw [if_pos (by decide +kernel)]; kernel_rfl) | (rw [if_neg (by decide +kernel)]; exact ⟨rfl, rfl⟩))
    (fun os started H enc _ => lifted os started H enc)
-- ROW END
end VectSteps
end Go.Proofs.Ytpgpeigaoonpcab
