/-
  NumBack (P1.5): a number's bytes are read as it, whatever stands ahead of them and behind. Of inputs of bulk up to 1048576 (a greater one, of two slices near 2^47 bytes each, is too long for one slice).
-/
import Derived.Test.YtpgpeigaoonpcaaPutNum
import Derived.Test.YtpgpeigaoonpcaaNumWalk
import Derived.Test.YtpgpeigaoonpcaaBulk
namespace Go.Proofs.Ytpgpeigaoonpcaa
namespace NumBack
open Go.ChangeShapes Go.WideShapes Go.ChangeAt Go.RowKit Num

theorem walk (w : World) (n : Int) (hn : -9223372036854775808 ≤ n ∧ n ≤ 9223372036854775807)
    (A : Option Addr) (c : Nat) (xs : List Int) (hr : Ns .u8 w w.heap.size A xs) (hby : ∀ z ∈ xs, 0 ≤ z ∧ z ≤ 255) (_ : xs.length ≤ 140737488351232) (_ : xs.length ≤ c)
    (A' : Option Addr) (c' : Nat) (ys : List Int) (hr' : Ns .u8 w w.heap.size A' ys) (hby' : ∀ z ∈ ys, 0 ≤ z ∧ z ≤ 255) (_ : ys.length ≤ 140737488351232) (_ : ys.length ≤ c')
    (hbulk : xs.length + ys.length ≤ 1048576) :
    Calls Try.prog 5 #[.int .i64 n, .slice A xs.length c, .slice A' ys.length c'] w fun e w' => e = .returned (.bool true) ∧ Below w.heap.size w w' := by
  by_cases h0 : n < 0
  · go_enter Try.func5, Try.ntmps5
    go_wp2
    go_ret
    exact ⟨rfl, Below.refl _ _⟩
  · obtain ⟨i0, hi0, hz0, hz1, hz2⟩ := info_parts Facts.info5
    have h1 : ∀ W, Calls Try.prog 16 #[.int .i64 n] W (MadeNs 5 .u8 (putL n) W) := fun W => putnum_pos n (by omega) W
    obtain ⟨hl1, hl9⟩ := putL_len n
    have hF := numF_put n (by omega) (by omega) xs ys
    have hLb := putL_bytes n (by omega)
    obtain ⟨L, hL⟩ : ∃ L, putL n = L := ⟨_, rfl⟩
    rw [hL] at h1 hl1 hl9 hF hLb
    have hZb : ∀ z ∈ xs ++ L ++ ys, 0 ≤ z ∧ z ≤ 255 := by
      intro z hz
      rcases List.mem_append.1 hz with hz | hz
      · rcases List.mem_append.1 hz with hz | hz
        · exact hby z hz
        · exact hLb z hz
      · exact hby' z hz
    have hZl : (xs ++ L ++ ys).length = xs.length + L.length + ys.length := by rw [List.length_append, List.length_append]
    have H1 := Lib.hid h1
    have HF := Lib.hid (And.intro hF (And.intro hZb hZl))
    clear h1 hL hF hZb hZl hLb hby hby'
    go_enter Try.func5, Try.ntmps5
    go_wp2_with fail
    refine (H1.out _).mono ?_
    rintro e w1 ⟨A1, c1, rfl, o1, b1⟩
    have hsz1 := b1.size
    have hrA := hr.below b1
    have hrB := hr'.below b1
    have hrP := own_ns o1
    clear hr hr'
    go_wp2_with (first
      | (at_builtin; refine wpList_append_ns _ rfl (.tmp 16) (.tmp 17) 23 rfl w1.heap.size 5 i0 (.int .u8 0) 1 Try.underlying23 hi0 hz0 hz1 hz2 rfl (.slice none 0 0) (0) ([]) rfl (World.ownsRow_nil _ _ _ _) .u8 w.heap.size A xs.length c xs rfl rfl hrA (by omega) (by omega) (Nat.le_refl _) ?_; intro v2 w2 o2 g2 at2; have b2 : Below w1.heap.size w1 w2 := (Below.refl _ _).grown g2 (Nat.le_refl _) (by simp [Value.ownBlock]); have p2 := hrP.below b2; have q2 := hrB.below (b2.mono hsz1))
      | (at_builtin; refine wpList_append_ns _ rfl (.tmp 19) (.tmp 20) 23 rfl w1.heap.size 5 i0 (.int .u8 0) 1 Try.underlying23 hi0 hz0 hz1 hz2 rfl _ (0 + xs.length) ([] ++ nums .u8 xs) rfl o2 .u8 w1.heap.size A1 L.length c1 L rfl rfl p2 (by omega) (by omega) b2.size ?_; intro v3 w3 o3 g3 at3; have b3 : Below w1.heap.size w1 w3 := b2.grown g3 b2.size (fun k hk => (o2.lt k hk).1); have q3 := q2.grown g3 (Nat.le_trans hsz1 b2.size) (fun k hk => Nat.le_trans hsz1 (o2.lt k hk).1))
      | (at_builtin; refine wpList_append_ns _ rfl (.tmp 22) (.tmp 23) 23 rfl w1.heap.size 5 i0 (.int .u8 0) 1 Try.underlying23 hi0 hz0 hz1 hz2 rfl _ (0 + xs.length + L.length) ([] ++ nums .u8 xs ++ nums .u8 L) rfl o3 .u8 w.heap.size A' ys.length c' ys rfl rfl q3 (by omega) (by omega) b3.size ?_; intro v4 w4 o4 g4 at4; have b4 : Below w1.heap.size w1 w4 := b3.grown g4 b3.size (fun k hk => (o3.lt k hk).1); obtain ⟨A4, c4, hv4⟩ := own_form o4; subst hv4))
    obtain ⟨hF, hZb, hZl⟩ := HF.out
    have hN : Ns .u8 w4 w4.heap.size A4 (xs ++ L ++ ys) := own_ns (e := 5) (base := w1.heap.size) (c := c4) (n := 0 + xs.length + L.length + ys.length) (by
      rw [hZl]
      simpa [nums] using o4)
    have hnum := num_at A4 c4 (xs.length + L.length + ys.length) (xs ++ L ++ ys) hZl xs.length _ w4 hN hZb (by omega) (by omega)
    rw [hF] at hnum
    have HN := Lib.hid hnum
    clear hnum hF hZb hZl o2 o3 o4 g2 g3 g4 at2 at3 at4 q2 q3 p2 hrP hrA hrB HF
    have hd9 : decide ((L.length : Int) ≤ 9) = true := decide_eq_true (by omega)
    refine HN.out.mono ?_
    rintro e w' ⟨rfl, rfl⟩
    go_wp2
    all_goals go_ret
    all_goals exact ⟨rfl, b1.trans (b4.mono hsz1)⟩

-- ROW BEGIN
/-- What the walk gives, shut again. -/
theorem contract (H : Type) (enc : TypeId × Value → H) (W : World) (base : Nat) (args : Array Value) (ds gs : List (DataW H)) (before : List MemPlace)
    (hval : ∀ (j : Nat) t v, Try.f5.params[j]? = some t → args[j]? = some v → Value.okWide Try.prog W .any base t v)
    (hW : DataW.Whole enc Try.prog Try.f5.params.toList Rows.numBackSpec.vars false W args.toList ds gs before)
    (hsz : (DataW.weightsEach Try.prog (Try.f5.params.toList ++ Rows.numBackSpec.plain.varTypes Try.prog) (ds ++ gs)).all (· ≤ reachBytes) = true) (hk : Rows.uptoSmall H (ds ++ gs) = true) :
    Calls Try.prog 5 args W fun e W' => ∃ v, e = .returned v ∧ Rows.numBackSpec.post enc Try.prog Try.f5 false true false false W args v W' := by
  have hW' := hW
  obtain ⟨p, q, hA0, hV, hbef, _, _⟩ := hW
  have hA : DataW.TrodAll enc Try.prog W 0 (fun _ => true) true Try.f5.params.toList args.toList ds p := hA0
  have hA1 := hA
  rw [Try.params5] at hA hval hsz
  obtain ⟨v0, vs0, d0, ds0, p0, q0, hargs, rfl, rfl, h0, r0⟩ := trodAll_cons hA
  obtain ⟨v1, vs1, d1, ds1, p1, q1, rfl, rfl, rfl, h1, r1⟩ := trodAll_cons r0
  obtain ⟨v2, vs2, d2, ds2, p2, q2, rfl, rfl, rfl, h2, r2⟩ := trodAll_cons r1
  obtain ⟨rfl, rfl, rfl⟩ := trodAll_nil r2
  obtain rfl : args = #[v0, v1, v2] := by cases args; simp_all
  obtain ⟨rfl, rfl⟩ := trodVars_none hV
  clear hA hargs
  obtain ⟨a0, rfl, rfl, _, w0⟩ := open_int Try.underlying2 (hval 0 2 v0 rfl rfl) h0
  obtain ⟨A1, c1, a1, rfl, n1, w1, l1, _, o1⟩ := open_ns Try.underlying23 Try.underlying5 Facts.cells5 (hval 1 23 v1 rfl rfl) h1
  have b1 := reach_ns hsz (j := 1) rfl rfl Try.underlying23 Facts.bytes5 l1 o1
  obtain ⟨A2, c2, a2, rfl, n2, w2, l2, _, o2⟩ := open_ns Try.underlying23 Try.underlying5 Facts.cells5 (hval 2 23 v2 rfl rfl) h2
  have b2 := reach_ns hsz (j := 2) rfl rfl Try.underlying23 Facts.bytes5 l2 o2
  have hbulk : a1.length + a2.length ≤ 1048576 := by
    have h := Bulk.bound hk
    have e1 := Bulk.ns_le (H := H) o1 l1
    have e2 := Bulk.ns_le (H := H) o2 l2
    simp only [List.append_nil, Rows.uptoBulkAll] at h
    omega
  refine (walk W a0 (wf_int w0) A1 c1 a1 n1 (fun z hz => wf_byte (w1 z hz)) (by omega) l1 A2 c2 a2 n2 (fun z hz => wf_byte (w2 z hz)) (by omega) l2 hbulk).mono fun e W' ⟨he, hb⟩ => ?_
  subst he
  exact ⟨_, rfl, law_post Facts.laid (by rfl) Try.underlying4 (by rw [Try.params5]; decide +kernel) hW' hA1 rfl hbef rfl rfl rfl hb⟩

set_option maxRecDepth 100000 in
theorem lifted (os : Os) (started : os.Started) (H : Type) (enc : TypeId × Value → H) (F : Stop.Interp) :
    ReturnsInHanded {} Try.checked os 5 .any ((Rows.OpenSpec.upto Rows.numBackSpec).pre6 enc Try.prog Try.f5 Rows.numBackUptoRow.domain false) (((Rows.OpenSpec.upto Rows.numBackSpec).at F).post enc Try.prog Try.f5 false true false false) := by
  refine returnsInHanded_of_cond_sized (C := Try.checked) (s := Rows.OpenSpec.upto Rows.numBackSpec) (k := Rows.uptoSmall) rfl Facts.own started (by kernel_rfl) Try.func5
    (OpenSpec.witness (enc := enc) (C := Try.checked) (s := Rows.OpenSpec.upto Rows.numBackSpec) (k := Rows.uptoSmall) rfl false ⟨#[], #[.int .i64 0, .slice none 0 0, .slice none 0 0], []⟩ 8 (by kernel_rfl) (by kernel_rfl) (by kernel_rfl)
      (x := ([.lit (.int .i64 0), .nil, .nil], [], [])) (by kernel_rfl) rfl (by kernel_rfl)) ?_
  intro W base args ds gs before hval hW _ hk hsz _
  exact contract H enc W base args ds gs before hval hW hsz hk

theorem holds : Rows.NumBackUptoSaid :=
  OpenClaim.holds_of_cond 5 Try.f5 rfl rfl rfl rfl rfl rfl rfl ⟨rfl, rfl, rfl, rfl, rfl⟩ rfl rfl rfl rfl rfl (by kernel_rfl) Try.func5 (by kernel_rfl)
    (of_decide_eq_true (by kernel_rfl)) (by unfold Func.isWrapper; first | (rw [if_pos (by decide +kernel)]; kernel_rfl) | (rw [if_neg (by decide +kernel)]; exact ⟨rfl, rfl⟩))
    (fun os started H enc _ F => lifted os started H enc F)
-- ROW END
end NumBack
end Go.Proofs.Ytpgpeigaoonpcaa
