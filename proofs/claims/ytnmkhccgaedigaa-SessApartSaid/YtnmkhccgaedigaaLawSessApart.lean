/-
  SessApart (P21.4): what is handed in stays, and isn't kept; what is told is new memory. For every input.
-/
import Derived.Test.YtnmkhccgaedigaaSessAwake
import Derived.Test.YtnmkhccgaedigaaRow
import Derived.Test.YtnmkhccgaedigaaFrame
namespace Go.Proofs.Ytnmkhccgaedigaa
namespace SessApart
open Go.ChangeShapes Go.WideShapes Go.ChangeAt Go.RowKit Sess Blk
attribute [local go_sem ↓] Go.wp_at_zero Go.wp_at_succ

theorem token_at {F : Nat → Prop} {w : World} {sb m : Nat} {N : Int} {L : List Sn} (h : SI F w sb N L m) (hn : L.length ≤ 1000000000000) (k : Int) {t : List Int} (hF : tokF L k = t) (tl : Nat) (htl : t.length = tl) :
    Calls Try.prog 21 #[hd sb, .int .i64 k] w (fun e w' => ∃ A1 c1, e = .returned (.slice A1 tl c1) ∧ Hid (w'.ownsRow w.heap.size 5 1 (.slice A1 tl c1) tl (nums .u8 t) ∧ Below w.heap.size w w')) :=
  (token_any h hn k).mono fun e w' h => by
    rw [hF] at h
    obtain ⟨A1, c1, n1, he, hl, h1, h2⟩ := h
    rw [htl] at hl
    subst hl
    exact ⟨A1, c1, he, Lib.hid ⟨h1, h2⟩⟩
/-- Sessions behind a world w, all of them new since then. -/
def Sit (w : World) (sb : Nat) (L : List Sn) (m : Nat) (F : Nat → Prop) (V : World) : Prop := SI F V sb 1 L m ∧ Below w.heap.size w V ∧ ∀ k, F k → w.heap.size ≤ k
/-- A row of bytes beside them. -/
def Beside (w : World) (F : Nat → Prop) (A : Option Addr) (n : Nat) (V : World) : Prop := 0 < n → ∃ g, A = some ⟨g, 0, none⟩ ∧ w.heap.size ≤ g ∧ ¬ F g ∧ g < V.heap.size ∧ Rw .u8 V g n
section
variable {w V V' : World} {sb m : Nat} {L : List Sn} {F F' : Nat → Prop} {A : Option Addr} {n : Nat}
theorem Sit.step {L' : List Sn} {m' : Nat} (h : Sit w sb L m F V) (h1 : SI F' V' sb 1 L' m') (h2 : Stp F V F' V') : Sit w sb L' m' F' V' := ⟨h1, h2.old h.2.1 h.2.2⟩
theorem Sit.below (h : Sit w sb L m F V) (hb : Below V.heap.size V V') : Sit w sb L m F V' := ⟨h.1.below hb, h.2.1.trans (hb.mono h.2.1.size), h.2.2⟩
theorem beside_of {B c : Nat} {zs : List Int} (h : Sit w sb L m F V) (hB : V.heap.size ≤ B ∨ (∀ k, F k → k < B) ∧ w.heap.size ≤ B) (o : V'.ownsRow B 5 1 (.slice A n c) n (nums .u8 zs)) (hz : zs.length = n) : Beside w F A n V' := fun hp => by
  subst hz
  obtain ⟨g, e1, e2, e3, e4⟩ := own_rw o hp
  have hs := h.2.1.size
  refine ⟨g, e1, ?_, fun hf => ?_, e3, e4⟩
  · rcases hB with q | q <;> omega
  · have := h.1.lt g hf
    rcases hB with q | q
    · omega
    · have := q.1 g hf
      omega
theorem Sit.spoil (h : Sit w sb L m F V) (hp : 0 < n) (hb : Beside w F A n V) : ∃ g, A = some ⟨g, 0, none⟩ ∧ ∀ k, k < n → (∃ z, V.cell? ⟨g, k, none⟩ = some (.int .u8 z)) ∧ V.frozen? ⟨g, k, none⟩ = false ∧ ∀ x, Sit w sb L m F (V.setCell ⟨g, k, none⟩ (.int .u8 x)) ∧ Beside w F A n (V.setCell ⟨g, k, none⟩ (.int .u8 x)) := by
  obtain ⟨g, e1, e2, e3, e4, e5⟩ := hb hp
  refine ⟨g, e1, fun k hk => ⟨e5.cell k hk, e5.frozen k, fun x => ?_⟩⟩
  have hg := gset V g k (.int .u8 x)
  have hc : Chg (fun j => j = g) V (V.setCell ⟨g, k, none⟩ (.int .u8 x)) := Chg.of_grown hg fun j hj => by injection hj with hj; exact hj.symm
  exact ⟨⟨h.1.chg hc (fun j hj q => e3 (q ▸ hj)), h.2.1.trans (hc.below (fun j hj => by omega) h.2.1.size), h.2.2⟩, fun _ => ⟨g, e1, e2, e3, Nat.lt_of_lt_of_le e4 hg.size, e5.set k x⟩⟩
end
theorem end_one (t : List Int) : endF [(1, [], 1)] 1 t = ([(1, t, 0)], 1, true) := by
  have h : endF [(1, [], 1)] 1 t = ([(1, if t.length = 0 then [] else t, 0)], 1, true) := rfl
  rw [h]
  by_cases h0 : t.length = 0
  · obtain rfl : t = [] := List.eq_nil_of_length_eq_zero h0
    rfl
  · rw [if_neg h0]

set_option maxRecDepth 100000 in
set_option maxHeartbeats 1000000 in
theorem walk (w : World) (A : Option Addr) (c : Nat) (zs : List Int) (hr : Ns .u8 w w.heap.size A zs) (hby : ∀ z ∈ zs, 0 ≤ z ∧ z ≤ 255) (hbig : zs.length ≤ 140737488351232) (_hlc : zs.length ≤ c) :
    Calls Try.prog 5 #[.slice A zs.length c] w fun e w' => e = .returned (.bool true) ∧ Below w.heap.size w w' := by
  obtain ⟨n, hn⟩ : ∃ n, zs.length = n := ⟨_, rfl⟩
  obtain ⟨i0, hi0, hz0, hz1, hz2⟩ := info_parts Facts.info5
  have hcv : ∀ (U : World) (A2 : Option Addr) (c2 : Nat), Ns .u8 U U.heap.size A2 zs → (convert 32 9 (.slice A2 n c2)).run Try.prog U = .ok (.string (strOfNums zs)) U := fun U A2 c2 h => by
    have h := run_conv_ns (P := Try.prog) U 32 5 9 Try.underlying32 Try.underlying5 Try.underlying9 c2 h
    rwa [hn] at h
  rw [hn] at hbig ⊢
  have hs1 : ((strOfNums zs).toList == (strOfNums zs).toList) = true := by simp
  obtain ⟨S, hS⟩ : ∃ S, strOfNums zs = S := ⟨_, rfl⟩
  rw [hS] at hcv hs1
  have HCV := Lib.hid hcv
  have HZ := Lib.hid (And.intro hr (And.intro hn hby))
  have HA := Lib.hid (awake_any w)
  clear hcv hr hn hby hS _hlc
  go_enter Try.func5, Try.ntmps5
  go_wp2_with fail
  refine HA.out.mono ?_
  rintro e0 w0 ⟨rfl, b0⟩
  have HB0 := Lib.hid b0
  have H1 := Lib.hid (new_at 1 (by omega) w0)
  clear b0
  go_wp2_with fail
  refine H1.out.mono ?_
  rintro e1 w1 ⟨F1, sb, rfl, h1⟩
  have S1 : Hid (Sit w sb [] 0 F1 w1) := Lib.hid ⟨h1.out.1, HB0.out.trans (h1.out.2.2.mono HB0.out.size), fun k hk => Nat.le_trans HB0.out.size (h1.out.2.1 k hk)⟩
  have H2 := Lib.hid (open_at S1.out.1 (by simp) 1 (L' := [(1, [], 0)]) (num := 1) (err := 0) (by decide))
  clear h1
  go_wp2_with fail
  refine H2.out.mono ?_
  rintro e2 w2 ⟨rfl, F2, h2⟩
  have S2 := Lib.hid (S1.out.step h2.out.1 h2.out.2)
  have H3 := Lib.hid (begin_at S2.out.1 (by simp) (by omega) 1 1 (by omega) (L' := [(1, [], 1)]) (site := 1) (tok := []) (err := 0) (by decide) 0 rfl)
  clear h2
  go_wp2_with fail
  refine H3.out.mono ?_
  rintro e3 w3 ⟨A3, c3, m3, F3, B3, rfl, hm3, h3⟩
  have S3 := Lib.hid (S2.out.step h3.out.1 h3.out.2.1)
  have hr3 := Lib.hid ((HZ.out.1.below S3.out.2.1).more S3.out.2.1.size)
  clear h3
  go_wp2_with (at_builtin; refine wpList_append_ns _ rfl (.tmp 29) (.tmp 30) 32 rfl w3.heap.size 5 i0 (.int .u8 0) 1 Try.underlying32 hi0 hz0 hz1 hz2 rfl _ 0 [] rfl (World.ownsRow_nil _ _ _ _) .u8 w3.heap.size A n c zs HZ.out.2.1 rfl hr3.out (by omega) (by omega) (Nat.le_refl _) ?_; intro v4 w4 o4 g4 at4; rw [Nat.zero_add, List.nil_append] at o4; obtain ⟨A4, c4, rfl⟩ := own_form o4)
  have b4 : Below w3.heap.size w3 w4 := (Below.refl _ w3).grown g4 (Nat.le_refl _) (fun j hj => by cases hj)
  have S4 := Lib.hid (S3.out.below b4)
  have hn4 := HZ.out.2.1
  have N4 := Lib.hid (own_ns (c := c4) (n := n) (zs := zs) (by rw [HZ.out.2.1]; exact o4))
  have R4 := Lib.hid (beside_of (V' := w4) S3.out (.inl (Nat.le_refl _)) o4 HZ.out.2.1)
  have H5 := Lib.hid (end_at S4.out.1 (by simp) 1 (by omega) A4 c4 n zs HZ.out.2.1 ⟨by have := HZ.out.2.1; omega, HZ.out.2.2⟩ N4.out (fun a ha hf => by
    have h := (o4.lt a.block (by rw [ha]; rfl)).1
    have := S3.out.1.lt _ hf
    omega) (end_one zs))
  clear o4 g4 at4 b4 hn4
  go_wp2_with fail
  refine H5.out.mono ?_
  rintro e5 w5 ⟨rfl, F5, h5⟩
  have S5 := Lib.hid (S4.out.step h5.out.1 h5.out.2)
  have R5 : Hid (Beside w F5 A4 n w5) := Lib.hid fun hp => by
    obtain ⟨g, q1, q2, q3, q4, q5⟩ := R4.out hp
    refine ⟨g, q1, q2, fun hf => ?_, Nat.lt_of_lt_of_le q4 h5.out.2.1.size, q5.keep (h5.out.2.1.block g q4 q3)⟩
    rcases h5.out.2.2 g hf with q | q
    · exact q3 q
    · omega
  clear h5 S4 R4 N4
  go_wp2_with fail
  go_loopw [6] (fun q wr => ∃ k : Nat, k ≤ n ∧ q = .int .i64 k ∧ Hid (Sit w sb [(1, zs, 0)] m3 F5 wr ∧ Beside w F5 A4 n wr)) (fun q _ => n - (intOf q).toNat)
  case atStart => exact ⟨0, by omega, rfl, Lib.hid ⟨S5.out, R5.out⟩⟩
  case round =>
    obtain ⟨k, hk, rfl, hst⟩ := hrel
    by_cases hlt : k < n
    · obtain ⟨g, rfl, hg⟩ := hst.out.1.spoil (by omega) hst.out.2
      obtain ⟨⟨z, hz⟩, hfz, hnx⟩ := hg k hlt
      have z1 : (0 : Int) ≤ (k : Int) := by omega
      have z2 : (k : Int) < (n : Int) := by omega
      have HNX := Lib.hid hnx
      clear hnx hg hst
      go_wp2_with fail
      exact ⟨⟨k + 1, by omega, rfl, Lib.hid (HNX.out _)⟩, by simp only [intOf]; omega⟩
    · have hkn : k = n := by omega
      subst hkn
      have H6 := Lib.hid (token_at hst.out.1.1 (by simp) 1 (t := zs) rfl k HZ.out.2.1)
      have S6 := Lib.hid hst.out.1
      clear hst S5 R5
      go_wp2_with fail
      refine H6.out.mono ?_
      rintro e6 w6 ⟨A6, c6, rfl, h6⟩
      have S7 := Lib.hid (S6.out.below h6.out.2)
      have R7 := Lib.hid (beside_of (V' := w6) S6.out (.inl (Nat.le_refl _)) h6.out.1 HZ.out.2.1)
      clear h6 S6
      go_wp2_with fail
      go_loopw [8] (fun q wr => ∃ i : Nat, i ≤ k ∧ q = .int .i64 i ∧ Hid (Sit w sb [(1, zs, 0)] m3 F5 wr ∧ Beside w F5 A6 k wr)) (fun q _ => k - (intOf q).toNat)
      case atStart => exact ⟨0, by omega, rfl, Lib.hid ⟨S7.out, R7.out⟩⟩
      case round =>
        obtain ⟨i, hi, rfl, hst⟩ := hrel
        by_cases hlt : i < k
        · obtain ⟨g, rfl, hg⟩ := hst.out.1.spoil (by omega) hst.out.2
          obtain ⟨⟨z, hz⟩, hfz, hnx⟩ := hg i hlt
          have z1 : (0 : Int) ≤ (i : Int) := by omega
          have z2 : (i : Int) < (k : Int) := by omega
          have HNX := Lib.hid hnx
          clear hnx hg hst
          go_wp2_with fail
          exact ⟨⟨i + 1, by omega, rfl, Lib.hid (HNX.out _)⟩, by simp only [intOf]; omega⟩
        · have hik : i = k := by omega
          subst hik
          have H8 := Lib.hid (begin_at hst.out.1.1 (by simp) (by omega) 1 2 (by omega) (L' := [(1, zs, 2)]) (site := 1) (tok := zs) (err := 0) rfl i HZ.out.2.1)
          have S8 := Lib.hid hst.out.1
          clear hst S7 R7
          go_wp2_with fail
          refine H8.out.mono ?_
          rintro e8 w8 ⟨A8, c8, m8, F8, B8, rfl, hm8, h8⟩
          have S9 := Lib.hid (S8.out.step h8.out.1 h8.out.2.1)
          have R9 := Lib.hid (beside_of (V' := w8) S9.out (.inr ⟨h8.out.2.2.1, Nat.le_trans S8.out.2.1.size h8.out.2.2.2.1⟩) h8.out.2.2.2.2 HZ.out.2.1)
          clear h8 S8
          go_wp2_with fail
          go_loopw [12] (fun q wr => ∃ j : Nat, j ≤ i ∧ q = .int .i64 j ∧ Hid (Sit w sb [(1, zs, 2)] m8 F8 wr ∧ Beside w F8 A8 i wr)) (fun q _ => i - (intOf q).toNat)
          case atStart => exact ⟨0, by omega, rfl, Lib.hid ⟨S9.out, R9.out⟩⟩
          case round =>
            obtain ⟨j, hj, rfl, hst⟩ := hrel
            by_cases hlt : j < i
            · obtain ⟨g, rfl, hg⟩ := hst.out.1.spoil (by omega) hst.out.2
              obtain ⟨⟨z, hz⟩, hfz, hnx⟩ := hg j hlt
              have z1 : (0 : Int) ≤ (j : Int) := by omega
              have z2 : (j : Int) < (i : Int) := by omega
              have HNX := Lib.hid hnx
              clear hnx hg hst
              go_wp2_with fail
              exact ⟨⟨j + 1, by omega, rfl, Lib.hid (HNX.out _)⟩, by simp only [intOf]; omega⟩
            · have hji : j = i := by omega
              subst hji
              have H9 := Lib.hid (token_at (w := wr.drew) (show SI F8 wr.drew sb 1 [(1, zs, 2)] m8 from hst.out.1.1.below ((Below.refl _ wr).drew)) (by simp) 1 (t := zs) rfl j HZ.out.2.1)
              have hbr : Below w.heap.size w wr.drew := hst.out.1.2.1.trans (((Below.refl wr.heap.size wr).drew).mono hst.out.1.2.1.size)
              have HBR := Lib.hid hbr
              have hkk : ∀ U, Below wr.drew.heap.size wr.drew U → (convert 32 9 (.slice A j c)).run Try.prog U = .ok (.string S) U := fun U h => HCV.out U A c (((HZ.out.1.below hbr).more hbr.size).below h |>.more h.size)
              have x0 := hkk wr.drew (Below.refl _ _)
              have HKK := Lib.hid hkk
              clear hkk hst S9 R9 hbr
              go_wp2_with fail
              go_region_held (fun U => (convert 32 9 (.slice A j c)).run Try.prog U = .ok (.string S) U)
                (first | exact x0 | exact x9)
                (first
                | (go_at_call 21; refine H9.out.mono ?_; rintro e9 w9 ⟨A9, c9, rfl, h9⟩; have x9 := HKK.out w9 h9.out.2; have y9 := HCV.out w9 A9 c9 (own_ns (zs := zs) (by rw [HZ.out.2.1]; exact h9.out.1))))
              all_goals
                have HE := Lib.hid (HBR.out.trans (h9.out.2.mono HBR.out.size))
                clear x9 y9 h9
                go_wp2_with fail
                go_ret
                exact ⟨rfl, HE.out⟩
-- ROW BEGIN
set_option maxRecDepth 100000 in
/-- What the walk gives, shut again. -/
theorem contract (H : Type) (enc : TypeId × Value → H) (W : World) (base : Nat) (args : Array Value) (ds gs : List (DataW H)) (before : List MemPlace)
    (hval : ∀ (j : Nat) t v, Try.f5.params[j]? = some t → args[j]? = some v → Value.okWide Try.prog W .any base t v)
    (hW : DataW.Whole enc Try.prog Try.f5.params.toList Rows.sessApartSpec.vars false W args.toList ds gs before)
    (hsz : (DataW.weightsEach Try.prog (Try.f5.params.toList ++ Rows.sessApartSpec.plain.varTypes Try.prog) (ds ++ gs)).all (· ≤ reachBytes) = true) :
    Calls Try.prog 5 args W fun e W' => ∃ v, e = .returned v ∧ Rows.sessApartSpec.post enc Try.prog Try.f5 false true false false W args v W' := by
  have hW' := hW
  obtain ⟨p, q, hA0, hV, hbef, _, _⟩ := hW
  have hA : DataW.TrodAll enc Try.prog W 0 (fun _ => true) true Try.f5.params.toList args.toList ds p := hA0
  have hA1 := hA
  rw [Try.params5] at hA hval hsz
  obtain ⟨v0, vs0, d0, ds0, p0, q0, hargs, rfl, rfl, h0, r0⟩ := trodAll_cons hA
  obtain ⟨rfl, rfl, rfl⟩ := trodAll_nil r0
  obtain rfl : args = #[v0] := by cases args; simp_all
  obtain ⟨rfl, rfl⟩ := trodVars_none hV
  clear hA hargs
  obtain ⟨A0, c0, a0, rfl, n0, w0, l0, _, o0⟩ := open_ns Try.underlying32 Try.underlying5 Facts.cells5 (hval 0 32 v0 rfl rfl) h0
  have b0 := reach_ns hsz (j := 0) rfl rfl Try.underlying32 Facts.bytes5 l0 o0
  refine (walk W A0 c0 a0 n0 (fun z hz => wf_byte (w0 z hz)) (by omega) l0).mono fun e W' ⟨he, hb⟩ => ?_
  subst he
  exact ⟨_, rfl, law_post Facts.laid (by rfl) Try.underlying4 (by rw [Try.params5]; decide +kernel) hW' hA1 rfl hbef rfl rfl rfl hb⟩

set_option maxRecDepth 100000 in
theorem lifted (os : Os) (started : os.Started) (H : Type) (enc : TypeId × Value → H) :
    ReturnsInHanded {} Try.checked os 5 .any (Rows.sessApartSpec.pre6 enc Try.prog Try.f5 Rows.sessApartRow.domain false) (Rows.sessApartSpec.post enc Try.prog Try.f5 false true false false) := by
  refine returnsInHanded_of_change_sized (C := Try.checked) Facts.own started (by kernel_rfl) Try.func5
    (ChangeSpec.witness6 (enc := enc) (C := Try.checked) false ⟨#[], #[.slice none 0 0], []⟩ 8 (by kernel_rfl) (by kernel_rfl) (by kernel_rfl) (by kernel_rfl)) ?_
  intro W base args ds gs before hval hW _ hsz _
  exact contract H enc W base args ds gs before hval hW hsz

theorem holds : Rows.SessApartSaid :=
  OpenClaim.holds_of_wide 5 Try.f5 rfl rfl rfl rfl rfl rfl rfl ⟨rfl, rfl, rfl, rfl, rfl⟩ rfl rfl rfl rfl rfl (by kernel_rfl) Try.func5 (by kernel_rfl)
    (of_decide_eq_true (by kernel_rfl)) (by unfold Func.isWrapper; first | (rw [if_pos (by decide +kernel)]; kernel_rfl) | (rw [if_neg (by decide +kernel)]; exact ⟨rfl, rfl⟩))
    (fun os started H enc _ => lifted os started H enc)
-- ROW END
end SessApart
end Go.Proofs.Ytnmkhccgaedigaa
