/-
  VectKeeps (P4.5): what is handed in stays, and what is answered is new memory. For every input.
-/
import Derived.Test.YtpgpeigaoonpcacVectAwake
import Derived.Test.YtpgpeigaoonpcacVectRow
namespace Go.Proofs.Ytpgpeigaoonpcac
namespace VectKeeps
open Go.ChangeShapes Go.WideShapes Go.ChangeAt Go.RowKit Span Vect
attribute [local go_sem ↓] Go.wp_at_zero Go.wp_at_succ

/-- An answer of Join, read with its row: k is how long it is. -/
theorem post_own {L : List Int} {E : Int} {k : Nat} (hk : L.length = k) (w : World) (e : Ending) (w' : World) (h : VJPost L E w e w') :
    ∃ A c, e = .returned (.tuple #[.slice A k c, .int .i64 E]) ∧ w'.ownsRow w.heap.size 2 1 (.slice A k c) k (nums .i64 L) ∧ Below w.heap.size w w' := by
  obtain ⟨A, c, rfl, o, b⟩ := h
  subst hk
  exact ⟨A, c, rfl, o, b⟩
theorem own_ns_len {w : World} {base : Nat} {A : Option Addr} {c n : Nat} {zs : List Int} (hn : zs.length = n) (h : w.ownsRow base 2 1 (.slice A n c) n (nums .i64 zs)) : Ns .i64 w w.heap.size A zs := by
  subst hn
  exact own_ns h

set_option maxHeartbeats 2000000 in
theorem walk (w : World) (A : Option Addr) (c : Nat) (a : List Int) (hr : Ns .i64 w w.heap.size A a) (_hwf : ∀ z ∈ a, -9223372036854775808 ≤ z ∧ z ≤ 9223372036854775807) (hbig : a.length * 8 ≤ 140737488351232) (_hlc : a.length ≤ c)
    (A' : Option Addr) (c' : Nat) (b : List Int) (hr' : Ns .i64 w w.heap.size A' b) (_hwf' : ∀ z ∈ b, -9223372036854775808 ≤ z ∧ z ≤ 9223372036854775807) (hbig' : b.length * 8 ≤ 140737488351232) (_hlc' : b.length ≤ c') :
    Calls Try.prog 5 #[.slice A a.length c, .slice A' b.length c'] w fun e w' => e = .returned (.bool true) ∧ Below w.heap.size w w' := by
  obtain ⟨info, hi, hz, hsize, hby⟩ := info_int64
  have HI := Lib.hid (And.intro hi (And.intro hz (And.intro hsize hby)))
  have hS : ∀ W, Below w.heap.size w W → Ns .i64 W W.heap.size A a ∧ Ns .i64 W W.heap.size A' b := fun W h => ⟨(hr.below h).more h.size, (hr'.below h).more h.size⟩
  have h1 := fun AX cX W h hx => vjoin_any AX A' cX c' a.length b.length a b rfl rfl W hx (hS W h).2 (by omega) (by omega)
  have h2 := fun W h => ref_vjoin_any A A' c c' a.length b.length a b rfl rfl W (hS W h).1 (hS W h).2 (by omega) (by omega)
  have h4 := fun AX cX W h hx => vsame_any AX A cX c a.length a.length a a rfl rfl W hx (hS W h).1 (by omega) (by omega)
  rw [show decide (a = a) = true from decide_eq_true rfl] at h4
  have hlen : (vjL a b).length ≤ a.length := by
    unfold vjL
    split
    · rw [max_len]; exact Nat.le_refl _
    · simp
  obtain ⟨m, hm⟩ : ∃ m, a.length = m := ⟨_, rfl⟩
  obtain ⟨m', hm'⟩ : ∃ m', b.length = m' := ⟨_, rfl⟩
  rw [hm, hm'] at h1 h2 ⊢
  rw [hm] at h4 hbig hlen
  obtain ⟨E, hE⟩ : ∃ E, vjE a b = E := ⟨_, rfl⟩
  obtain ⟨L, hL0⟩ : ∃ L, vjL a b = L := ⟨_, rfl⟩
  rw [hE, hL0] at h1 h2
  rw [hL0] at hlen
  have h3 := fun A A' c c' W h h' => vsame_any A A' c c' L.length L.length L L rfl rfl W h h' (by omega) (by omega)
  rw [show decide (L = L) = true from decide_eq_true rfl] at h3
  obtain ⟨k, hk⟩ : ∃ k, L.length = k := ⟨_, rfl⟩
  have HJ := Lib.hid (post_own (E := E) hk)
  have HK := Lib.hid hk
  have HM := Lib.hid hm
  rw [hk] at h3 hlen
  have H1 := Lib.hid h1
  have H2 := Lib.hid h2
  have H3 := Lib.hid h3
  have H4 := Lib.hid h4
  have HA := Lib.hid hr
  clear h1 h2 h3 h4 hm hm' hE hL0 hk hr hr' hbig' hS hi hz hsize hby
  go_enter Try.func5, Try.ntmps5
  go_wp2_with fail
  refine (awake_v w).mono ?_
  rintro e w0 ⟨rfl, hb0⟩
  have HA0 := Lib.hid (HA.out.below hb0)
  have s0 := hb0.size
  go_wp2_with (first
    | (at_builtin; refine wpList_append_ns _ rfl _ _ _ rfl w.heap.size 2 info (.int .i64 0) 8 Try.underlying22 HI.out.1 HI.out.2.1 HI.out.2.2.1 HI.out.2.2.2 rfl (.slice none 0 0) 0 [] rfl (World.ownsRow_nil _ _ _ _) .i64 w.heap.size A m c a HM.out rfl HA0.out (by omega) (by omega) s0 ?_; intro v1 w1 o1 g1 _; obtain ⟨Ax, cx, rfl⟩ := own_form o1))
  have hb1 := hb0.grown g1 s0 (fun g hg => by cases hg)
  have nx1 : Ns .i64 w1 w1.heap.size Ax a := own_ns_len HM.out (by
    have h := o1
    rw [List.nil_append, Nat.zero_add] at h
    exact h)
  clear o1 g1 HA0 s0
  go_wp2_with fail
  refine (H1.out Ax cx w1 hb1 nx1).mono ?_
  intro e w2 hp
  obtain ⟨A2, c2, rfl, o2, b2⟩ := HJ.out _ _ _ hp
  have nx2 := nx1.below b2
  have hb2 := hb1.trans (b2.mono hb1.size)
  have s12 := b2.size
  clear hp b2
  go_wp2_with fail
  refine (H1.out Ax cx w2 hb2 (nx2.more s12)).mono ?_
  intro e w3 hp
  obtain ⟨A3, c3, rfl, o3, b3⟩ := HJ.out _ _ _ hp
  have nx3 := Lib.hid (nx2.below (b3.mono s12))
  have ou3 := own_below o2 b3 (Nat.le_refl _)
  have hb3 := Lib.hid (hb2.trans (b3.mono hb2.size))
  have s23 := b3.size
  have s01 := hb1.size
  have HO2 := Lib.hid (o2.lt)
  have HU := Lib.hid ou3
  have HV := Lib.hid o3
  clear hp b3 nx1 nx2 o2 o3 ou3 hb1 hb2 hb0
  go_wp2
  go_loopw [10] (fun q wr => ∃ i : Nat, i ≤ k ∧ q = .int .i64 i ∧ Hid (w3.grownBy wr (Value.slice A2 k c2).ownBlock) ∧ Hid (∃ xs, wr.ownsRow w1.heap.size 2 1 (.slice A2 k c2) k xs)) (fun q _ => k - (intOf q).toNat)
  case atStart => exact ⟨0, by omega, rfl, World.grownBy.refl _ _, ⟨_, HU.out⟩⟩
  case round =>
    obtain ⟨i, hi1, rfl, hg, ho⟩ := hrel
    by_cases hlt : i < k
    · obtain ⟨xs, ho⟩ := ho.out
      obtain ⟨g, cap, hA2⟩ : ∃ g cap, A2 = some ⟨g, 0, none⟩ ∧ c2 = cap := by
        rcases ho.2 with ⟨_, h0⟩ | ⟨g, cap, cur, hv, _⟩
        · omega
        · injection hv with h1 _ h3
          exact ⟨g, cap, h1, h3⟩
      obtain ⟨rfl, rfl⟩ := hA2
      have hc := ho.cellAt i (by omega)
      have hxs : i < xs.length := by rw [ho.1]; omega
      rw [List.getElem?_eq_getElem hxs] at hc
      obtain ⟨v0, hv0⟩ : ∃ v, xs[i] = v := ⟨_, rfl⟩
      rw [hv0] at hc
      have hf := ho.frozenAt i
      have hs := ho.stored i (.int .i64 (-7))
      have HS := Lib.hid hs.1
      have HG := Lib.hid (World.grownBy.trans hg.out hs.2)
      clear hs ho hg
      go_wp2
      exact ⟨⟨i + 1, by omega, rfl, HG, Lib.hid ⟨_, HS.out⟩⟩, by simp only [intOf]; omega⟩
    · have hrow : ∀ g, (Value.slice A2 k c2).ownBlock = some g → w1.heap.size ≤ g ∧ g < w2.heap.size := HO2.out
      have hsz := hg.out.size
      have nx4 := (nx3.out.grown hg.out (Nat.le_trans s12 s23) (fun g h => (hrow g h).1)).more (Nat.le_trans (Nat.le_trans s12 s23) hsz)
      have hv4 := own_ns_len HK.out (HV.out.kept hg.out (by
          by_cases h0 : (Value.slice A3 k c3).ownBlock = none
          · exact .inl h0
          · right
            intro he
            obtain ⟨g, hg'⟩ := Option.ne_none_iff_exists'.1 h0
            have h5 := (HV.out.lt g hg').1
            have h6 := (hrow g (he ▸ hg')).2
            omega))
      have hb4 := hb3.out.grown hg.out hb3.out.size (fun g h => Nat.le_trans s01 (hrow g h).1)
      have NX := Lib.hid nx4
      have NV := Lib.hid hv4
      clear hrow nx4 hv4 hg ho nx3 HV HU HO2 hb3
      go_wp2_with fail
      refine (H2.out wr hb4).mono ?_
      intro e w5 hp
      obtain ⟨A5, c5, rfl, o5, b5⟩ := HJ.out _ _ _ hp
      have n5 : Ns .i64 w5 w5.heap.size A5 L := own_ns_len HK.out o5
      have nv5 := (NV.out.below b5).more b5.size
      have nx5 := (NX.out.below b5).more b5.size
      have hb5 := hb4.trans (b5.mono hb4.size)
      clear hp b5 hb4 o5 NV NX
      go_wp2_with fail
      refine (H3.out A3 A5 c3 c5 w5 nv5 n5).mono ?_
      rintro e w6 ⟨rfl, b6⟩
      have nx6 := (nx5.below b6).more b6.size
      have hb6 := hb5.trans (b6.mono hb5.size)
      clear b6 hb5 n5 nv5 nx5
      go_wp2_with fail
      refine (H4.out Ax cx w6 hb6 nx6).mono ?_
      rintro e w7 ⟨rfl, b7⟩
      have hb7 := hb6.trans (b7.mono hb6.size)
      clear b7 hb6 nx6
      go_wp2
      go_ret
      exact ⟨rfl, hb7⟩
-- ROW BEGIN
/-- What the walk gives, shut again. -/
theorem contract (H : Type) (enc : TypeId × Value → H) (W : World) (base : Nat) (args : Array Value) (ds gs : List (DataW H)) (before : List MemPlace)
    (hval : ∀ (j : Nat) t v, Try.f5.params[j]? = some t → args[j]? = some v → Value.okWide Try.prog W .any base t v)
    (hW : DataW.Whole enc Try.prog Try.f5.params.toList Rows.vectKeepsSpec.vars false W args.toList ds gs before)
    (hsz : (DataW.weightsEach Try.prog (Try.f5.params.toList ++ Rows.vectKeepsSpec.plain.varTypes Try.prog) (ds ++ gs)).all (· ≤ reachBytes) = true) :
    Calls Try.prog 5 args W fun e W' => ∃ v, e = .returned v ∧ Rows.vectKeepsSpec.post enc Try.prog Try.f5 false true false false W args v W' := by
  have hW' := hW
  obtain ⟨p, q, hA0, hV, hbef, _, _⟩ := hW
  have hA : DataW.TrodAll enc Try.prog W 0 (fun _ => true) true Try.f5.params.toList args.toList ds p := hA0
  have hA1 := hA
  rw [Try.params5] at hA hval hsz
  obtain ⟨v0, vs0, d0, ds0, p0, q0, hargs, rfl, rfl, h0, r0⟩ := trodAll_cons hA
  obtain ⟨v1, vs1, d1, ds1, p1, q1, rfl, rfl, rfl, h1, r1⟩ := trodAll_cons r0
  obtain ⟨rfl, rfl, rfl⟩ := trodAll_nil r1
  obtain rfl : args = #[v0, v1] := by cases args; simp_all
  obtain ⟨rfl, rfl⟩ := trodVars_none hV
  clear hA hargs
  obtain ⟨A0, c0, a0, rfl, n0, w0, l0, _, o0⟩ := open_ns Try.underlying22 Try.underlying2 Facts.cells2 (hval 0 22 v0 rfl rfl) h0
  have b0 := reach_ns hsz (j := 0) rfl rfl Try.underlying22 Facts.bytes2 l0 o0
  obtain ⟨A1, c1, a1, rfl, n1, w1, l1, _, o1⟩ := open_ns Try.underlying22 Try.underlying2 Facts.cells2 (hval 1 22 v1 rfl rfl) h1
  have b1 := reach_ns hsz (j := 1) rfl rfl Try.underlying22 Facts.bytes2 l1 o1
  refine (walk W A0 c0 a0 n0 (fun z hz => wf_int (w0 z hz)) (by omega) l0 A1 c1 a1 n1 (fun z hz => wf_int (w1 z hz)) (by omega) l1).mono fun e W' ⟨he, hb⟩ => ?_
  subst he
  exact ⟨_, rfl, law_post Facts.laid (by rfl) Try.underlying4 (by rw [Try.params5]; decide +kernel) hW' hA1 rfl hbef rfl rfl rfl hb⟩

set_option maxRecDepth 100000 in
theorem lifted (os : Os) (started : os.Started) (H : Type) (enc : TypeId × Value → H) :
    ReturnsInHanded {} Try.checked os 5 .any (Rows.vectKeepsSpec.pre6 enc Try.prog Try.f5 Rows.vectKeepsRow.domain false) (Rows.vectKeepsSpec.post enc Try.prog Try.f5 false true false false) := by
  refine returnsInHanded_of_change_sized (C := Try.checked) Facts.own started (by kernel_rfl) Try.func5
    (ChangeSpec.witness6 (enc := enc) (C := Try.checked) false ⟨#[], #[.slice none 0 0, .slice none 0 0], []⟩ 8 (by kernel_rfl) (by kernel_rfl) (by kernel_rfl) (by kernel_rfl)) ?_
  intro W base args ds gs before hval hW _ hsz _
  exact contract H enc W base args ds gs before hval hW hsz

theorem holds : Rows.VectKeepsSaid :=
  OpenClaim.holds_of_wide 5 Try.f5 rfl rfl rfl rfl rfl rfl rfl ⟨rfl, rfl, rfl, rfl, rfl⟩ rfl rfl rfl rfl rfl (by kernel_rfl) Try.func5 (by kernel_rfl)
    (of_decide_eq_true (by kernel_rfl)) (by unfold Func.isWrapper; first | (rw [if_pos (by decide +kernel)]; kernel_rfl) | (rw [if_neg (by decide +kernel)]; exact ⟨rfl, rfl⟩))
    (fun os started H enc _ => lifted os started H enc)
-- ROW END
end VectKeeps
end Go.Proofs.Ytpgpeigaoonpcac
