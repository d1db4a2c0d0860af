/-
  CodeReads (P6.3): whatever bytes are read as a message, or refused, as the document says. For every input.
-/
import Derived.Test.YtegiigeelcnemaaGreatCodeAwake
import Derived.Test.YtegiigeelcnemaaGreatCodeAt
import Derived.Test.YtegiigeelcnemaaGreatCodeRefMsg
namespace Go.Proofs.YtegiigeelcnemaaGreat
namespace CodeReads
open Go.ChangeShapes Go.WideShapes Go.ChangeAt Go.RowKit Num Span Vers Go.Proofs.YtegiigeelcnemaaGreat.Code
attribute [local go_sem ↓] Go.wp_at_zero Go.wp_at_succ

theorem msgWF_err {zs : List Int} {m : Ms} {e : Int} (h : msgWF zs = (m, e)) (he : e ≠ 0) : m = m0 := by
  unfold msgWF at h
  split at h
  · injection h with h1 h2
    exact h1.symm
  · split at h
    · injection h with h1 h2
      exact h1.symm
    · unfold msgF wholeF at h
      split at h
      · injection h with h1 h2
        exact h1.symm
      · split at h
        · injection h with h1 h2
          exact absurd h2.symm he
        · injection h with h1 h2
          exact h1.symm
theorem msgWF_shown {zs : List Int} (hby : ∀ z ∈ zs, 0 ≤ z ∧ z ≤ 255) {m : Ms} {e : Int} (h : msgWF zs = (m, e)) : Fit m ∧ ∀ B w a, MsgO B w m a → MsgI w 0 w.heap.size m a := by
  by_cases he : e = 0
  · subst he
    obtain ⟨_, o2, o3, _⟩ := msg_only hby h
    exact ⟨fit_ok o2 o3, fun B w a ho => ho.shown o2⟩
  · have hm := msgWF_err h he
    subst hm
    refine ⟨?_, fun B w a ho => (ho.msgI (fun x hx => by cases hx)).less (Nat.zero_le _)⟩
    unfold Fit tyM m0
    simp [ByteArray.size]

set_option maxRecDepth 100000 in
set_option maxHeartbeats 4000000 in
theorem walk (w : World) (A : Option Addr) (c : Nat) (zs : List Int) (hr : Ns .u8 w w.heap.size A zs) (hby : ∀ z ∈ zs, 0 ≤ z ∧ z ≤ 255) (hbig : zs.length ≤ 140737488351232) (hlc : zs.length ≤ c) :
    Calls Tryz.prog 5 #[.slice A zs.length c] w fun e w' => e = .returned (.bool true) ∧ Below w.heap.size w w' := by
  obtain ⟨B, hB⟩ : ∃ B, w.heap.size = B := ⟨_, rfl⟩
  have hz : ∀ W, Below B w W → Ns .u8 W W.heap.size A zs := fun W h => (hr.below (hB ▸ h)).more h.size
  have c1 := fun W (h : Below B w W) => msg_any A c zs.length zs rfl W (hz W h) hby hlc hbig
  have c2 := fun W (h : Below B w W) => refmsg_any A c zs.length zs rfl W (hz W h) hby hlc hbig
  obtain ⟨⟨m, er⟩, hR⟩ : ∃ r, msgWF zs = r := ⟨_, rfl⟩
  obtain ⟨hf, hsh⟩ := msgWF_shown hby hR
  rw [hR] at c1 c2
  have hms := fun a => mv_is m a
  have c3 := fun a a' W (h : MsgI W 0 W.heap.size m a) (h' : MsgI W 0 W.heap.size m a') => same_at m a a' hf W h h'
  obtain ⟨n, hn⟩ : ∃ n, zs.length = n := ⟨_, rfl⟩
  rw [hn] at c1 c2 ⊢
  have hsB : ∀ V, Below B w V → B ≤ V.heap.size := fun V h => by have := h.size; omega
  have HC := Lib.hid (And.intro c1 (And.intro c2 (And.intro c3 (And.intro hsh (And.intro hms hsB)))))
  have hb0 : Below B w w := Below.refl _ _
  have H0 := Lib.hid hb0
  rw [hB]
  clear hz c1 c2 c3 hsh hms hsB hR hf hr hby hlc hbig hn hB hb0
  go_enter Tryz.func5, Tryz.ntmps5
  go_wp2_with fail
  refine (HC.out.1 w H0.out).mono ?_
  rintro e1 w1 ⟨a1, rfl, o1, d1⟩
  rw [show (m, er).1 = m from rfl] at o1 ⊢
  rw [show (m, er).2 = er from rfl]
  have b1 := H0.out.trans (d1.mono (HC.out.2.2.2.2.2 _ H0.out))
  have hla1 := HC.out.2.2.2.2.1 a1
  obtain ⟨W1, hW1⟩ : ∃ W, w1.alloc (.cells (mcc m a1).toArray 45) = W := ⟨_, rfl⟩
  have g1 : Bn w1.heap.size 45 (mcc m a1) W1 := by rw [← hW1]; exact heap_alloc_new _ _
  have b2 : Below B w W1 := by rw [← hW1]; exact b1.alloc (HC.out.2.2.2.2.2 _ b1) _
  have i1 : MsgI W1 0 W1.heap.size m a1 := by rw [← hW1]; exact (HC.out.2.2.2.1 _ _ _ o1).below ((Below.refl _ w1).alloc (Nat.le_refl _) _) (by simp)
  have hc3 := HC.out.2.2.1 a1
  obtain ⟨L1, hL1⟩ : ∃ L, mcc m a1 = L := ⟨_, rfl⟩
  rw [hL1] at hla1 g1 hW1 hc3 ⊢
  have hsz1 := hla1.1
  have hone1 := hla1.2
  have hl1 := mv_len hla1
  obtain ⟨B1, hB1⟩ : ∃ B, w1.heap.size = B := ⟨_, rfl⟩
  rw [hB1] at g1
  have H1 := Lib.hid (And.intro g1 (And.intro b2 (And.intro i1 (And.intro hc3 hW1))))
  have HB1 := Lib.hid hB1
  clear o1 d1 b1 hla1 g1 b2 i1 hc3 hL1 hW1 hB1
  go_wp2_with (first
    | (refine wpList_store_row rfl 45 _ _ rfl _ L1.toArray rfl rfl 45 _ (heap_alloc_new _ _) hsz1 hl1.symm hone1 ?_; simp only [World.setRow_alloc_new]; rw [H1.out.2.2.2.2, HB1.out]))
  refine (HC.out.2.1 W1 H1.out.2.1).mono ?_
  rintro e2 w2 ⟨a2, rfl, o2, d2⟩
  rw [show (m, er).1 = m from rfl] at o2 ⊢
  rw [show (m, er).2 = er from rfl]
  have b3 := H1.out.2.1.trans (d2.mono (HC.out.2.2.2.2.2 _ H1.out.2.1))
  have hla2 := HC.out.2.2.2.2.1 a2
  obtain ⟨W2, hW2⟩ : ∃ W, w2.alloc (.cells (mcc m a2).toArray 45) = W := ⟨_, rfl⟩
  have g2 : Bn w2.heap.size 45 (mcc m a2) W2 := by rw [← hW2]; exact heap_alloc_new _ _
  have g1 : Bn B1 45 L1 W2 := by rw [← hW2]; exact (H1.out.1.below d2 H1.out.1.lt).kept (World.grownBy_alloc _ _ none) (by simp)
  have b4 : Below B w W2 := by rw [← hW2]; exact b3.alloc (HC.out.2.2.2.2.2 _ b3) _
  have hal : Below w2.heap.size w2 W2 := by rw [← hW2]; exact (Below.refl _ w2).alloc (Nat.le_refl _) _
  have i2 : MsgI W2 0 W2.heap.size m a2 := (HC.out.2.2.2.1 _ _ _ o2).below hal hal.size
  have i1 : MsgI W2 0 W2.heap.size m a1 := (H1.out.2.2.1.below d2 d2.size).below hal hal.size
  have c3 := fun U (h : Below W2.heap.size W2 U) => H1.out.2.2.2.1 a2 U (i1.below h h.size) (i2.below h h.size)
  obtain ⟨L2, hL2⟩ : ∃ L, mcc m a2 = L := ⟨_, rfl⟩
  rw [hL2] at hla2 g2 hW2 c3 ⊢
  have hsz2 := hla2.1
  have hone2 := hla2.2
  have hl2 := mv_len hla2
  obtain ⟨B2, hB2⟩ : ∃ B, w2.heap.size = B := ⟨_, rfl⟩
  rw [hB2] at g2
  have H2 := Lib.hid (And.intro g1 (And.intro g2 (And.intro b4 (And.intro c3 hW2))))
  have HB2 := Lib.hid hB2
  have hee : (er == er) = true := by simp
  clear o2 d2 b3 hla2 g2 g1 b4 hal i2 i1 c3 hL2 hW2 hB2 H1
  go_wp2_with (first
    | (refine wpList_store_row rfl 45 _ _ rfl _ L2.toArray rfl rfl 45 _ (heap_alloc_new _ _) hsz2 hl2.symm hone2 ?_; simp only [World.setRow_alloc_new]; rw [H2.out.2.2.2.2, HB2.out]))
  refine (awake_any _).mono ?_
  rintro e3 w3 ⟨rfl, d3⟩
  have g1 := H2.out.1.below d3 H2.out.1.lt
  have g2 := H2.out.2.1.below d3 H2.out.2.1.lt
  have c3 := H2.out.2.2.2.1 w3 d3
  have b5 := H2.out.2.2.1.trans (d3.mono (HC.out.2.2.2.2.2 _ H2.out.2.2.1))
  have H3 := Lib.hid (And.intro g1 (And.intro g2 b5))
  have HS := Lib.hid c3
  clear g1 g2 b5 c3 d3 H2
  go_wp2_with (first
    | (refine load_row_w (by rfl) 45 _ rfl B1 rfl 45 L1.toArray (0, 0) _ H3.out.1 Tryz.underlying45 rfl hsz1 ?_)
    | (refine load_row_w (by rfl) 45 _ rfl B2 rfl 45 L2.toArray (0, 0) _ H3.out.2.1 Tryz.underlying45 rfl hsz2 ?_))
  refine HS.out.mono ?_
  rintro e4 w4 ⟨rfl, d4⟩
  have HZ := Lib.hid (H3.out.2.2.trans (d4.mono (HC.out.2.2.2.2.2 _ H3.out.2.2)))
  clear d4 HS
  go_wp2_with fail
  go_ret
  exact ⟨rfl, HZ.out⟩
-- ROW BEGIN
set_option maxRecDepth 100000 in
/-- What the walk gives, shut again. -/
theorem contract (H : Type) (enc : TypeId × Value → H) (W : World) (base : Nat) (args : Array Value) (ds gs : List (DataW H)) (before : List MemPlace)
    (hval : ∀ (j : Nat) t v, Tryz.f5.params[j]? = some t → args[j]? = some v → Value.okWide Tryz.prog W .any base t v)
    (hW : DataW.Whole enc Tryz.prog Tryz.f5.params.toList Rows.codeReadsSpec.vars false W args.toList ds gs before)
    (hsz : (DataW.weightsEach Tryz.prog (Tryz.f5.params.toList ++ Rows.codeReadsSpec.plain.varTypes Tryz.prog) (ds ++ gs)).all (· ≤ reachBytes) = true) :
    Calls Tryz.prog 5 args W fun e W' => ∃ v, e = .returned v ∧ Rows.codeReadsSpec.post enc Tryz.prog Tryz.f5 false true false false W args v W' := by
  have hW' := hW
  obtain ⟨p, q, hA0, hV, hbef, _, _⟩ := hW
  have hA : DataW.TrodAll enc Tryz.prog W 0 (fun _ => true) true Tryz.f5.params.toList args.toList ds p := hA0
  have hA1 := hA
  rw [Tryz.params5] at hA hval hsz
  obtain ⟨v0, vs0, d0, ds0, p0, q0, hargs, rfl, rfl, h0, r0⟩ := trodAll_cons hA
  obtain ⟨rfl, rfl, rfl⟩ := trodAll_nil r0
  obtain rfl : args = #[v0] := by cases args; simp_all
  obtain ⟨rfl, rfl⟩ := trodVars_none hV
  clear hA hargs
  obtain ⟨A0, c0, a0, rfl, n0, w0, l0, _, o0⟩ := open_ns Tryz.underlying25 Tryz.underlying5 Facts.cells5 (hval 0 25 v0 rfl rfl) h0
  have b0 := reach_ns hsz (j := 0) rfl rfl Tryz.underlying25 Facts.bytes5 l0 o0
  refine (walk W A0 c0 a0 n0 (fun z hz => wf_byte (w0 z hz)) (by omega) l0).mono fun e W' ⟨he, hb⟩ => ?_
  subst he
  exact ⟨_, rfl, law_post Facts.laid (by rfl) Tryz.underlying4 (by rw [Tryz.params5]; decide +kernel) hW' hA1 rfl hbef rfl rfl rfl hb⟩

set_option maxRecDepth 100000 in
theorem lifted (os : Os) (started : os.Started) (H : Type) (enc : TypeId × Value → H) :
    ReturnsInHanded {} Tryz.checked os 5 .any (Rows.codeReadsSpec.pre6 enc Tryz.prog Tryz.f5 Rows.codeReadsRow.domain false) (Rows.codeReadsSpec.post enc Tryz.prog Tryz.f5 false true false false) := by
  refine returnsInHanded_of_change_sized (C := Tryz.checked) Facts.own started (by kernel_rfl) Tryz.func5
    (ChangeSpec.witness6 (enc := enc) (C := Tryz.checked) false ⟨#[], #[.slice none 0 0], []⟩ 8 (by kernel_rfl) (by kernel_rfl) (by kernel_rfl) (by kernel_rfl)) ?_
  intro W base args ds gs before hval hW _ hsz _
  exact contract H enc W base args ds gs before hval hW hsz

theorem holds : Rows.CodeReadsSaid :=
  OpenClaim.holds_of_wide 5 Tryz.f5 rfl rfl rfl rfl rfl rfl rfl ⟨rfl, rfl, rfl, rfl, rfl⟩ rfl rfl rfl rfl rfl (by kernel_rfl) Tryz.func5 (by kernel_rfl)
    (of_decide_eq_true (by kernel_rfl)) (by unfold Func.isWrapper; first | (rw [if_pos (by decide +kernel)]; kernel_rfl) | (rw [if_neg (by decide +kernel)]; exact ⟨rfl, rfl⟩))
    (fun os started H enc _ => lifted os started H enc)
-- ROW END
end CodeReads
end Go.Proofs.YtegiigeelcnemaaGreat
