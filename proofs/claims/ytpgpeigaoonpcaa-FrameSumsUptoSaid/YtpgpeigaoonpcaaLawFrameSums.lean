/-
  FrameSums (P2.1): the sum of bytes in any parts is the document's of all of them. Of inputs of bulk up to 1048576 (three slices near 2^47 bytes each are too long for one).
-/
import Derived.Test.YtpgpeigaoonpcaaSum
import Derived.Test.YtpgpeigaoonpcaaBulk
namespace Go.Proofs.Ytpgpeigaoonpcaa
namespace FrameSums
open Go.ChangeShapes Go.WideShapes Go.ChangeAt Go.RowKit Frm

theorem walk (w : World)
    (A : Option Addr) (c : Nat) (xs : List Int) (hr : Ns .u8 w w.heap.size A xs) (hby : ∀ z ∈ xs, 0 ≤ z ∧ z ≤ 255) (_ : xs.length ≤ 140737488351232) (hlc : xs.length ≤ c)
    (A' : Option Addr) (c' : Nat) (ys : List Int) (hr' : Ns .u8 w w.heap.size A' ys) (hby' : ∀ z ∈ ys, 0 ≤ z ∧ z ≤ 255) (_ : ys.length ≤ 140737488351232) (hlc' : ys.length ≤ c')
    (A'' : Option Addr) (c'' : Nat) (zs : List Int) (hr'' : Ns .u8 w w.heap.size A'' zs) (hby'' : ∀ z ∈ zs, 0 ≤ z ∧ z ≤ 255) (_ : zs.length ≤ 140737488351232) (hlc'' : zs.length ≤ c'')
    (hbulk : xs.length + ys.length + zs.length ≤ 1048576) :
    Calls Try.prog 10 #[.slice A xs.length c, .slice A' ys.length c', .slice A'' zs.length c''] w fun e w' => e = .returned (.bool true) ∧ Below w.heap.size w w' := by
  obtain ⟨i0, hi0, hz0, hz1, hz2⟩ := info_parts Facts.info5
  go_enter Try.func10, Try.ntmps10
  go_wp2_with (first
    | (at_builtin; refine wpList_append_ns _ rfl (.tmp 9) (.tmp 10) 23 rfl w.heap.size 5 i0 (.int .u8 0) 1 Try.underlying23 hi0 hz0 hz1 hz2 rfl (.slice none 0 0) (0) ([]) rfl (World.ownsRow_nil _ _ _ _) .u8 w.heap.size A xs.length c xs rfl rfl hr (by omega) (by omega) (Nat.le_refl _) ?_; intro v1 w1 o1 g1 at1; have b1 : Below w.heap.size w w1 := (Below.refl _ _).grown g1 (Nat.le_refl _) (by simp [Value.ownBlock]); have q1 := hr'.below b1; have r1 := hr''.below b1)
    | (at_builtin; refine wpList_append_ns _ rfl (.tmp 12) (.tmp 13) 23 rfl w.heap.size 5 i0 (.int .u8 0) 1 Try.underlying23 hi0 hz0 hz1 hz2 rfl _ (0 + xs.length) ([] ++ nums .u8 xs) rfl o1 .u8 w.heap.size A' ys.length c' ys rfl rfl q1 (by omega) (by omega) b1.size ?_; intro v2 w2 o2 g2 at2; have b2 : Below w.heap.size w w2 := b1.grown g2 b1.size (fun k hk => (o1.lt k hk).1); have r2 := hr''.below b2)
    | (at_builtin; refine wpList_append_ns _ rfl (.tmp 15) (.tmp 16) 23 rfl w.heap.size 5 i0 (.int .u8 0) 1 Try.underlying23 hi0 hz0 hz1 hz2 rfl _ (0 + xs.length + ys.length) ([] ++ nums .u8 xs ++ nums .u8 ys) rfl o2 .u8 w.heap.size A'' zs.length c'' zs rfl rfl r2 (by omega) (by omega) b2.size ?_; intro v3 w3 o3 g3 at3; have b3 : Below w.heap.size w w3 := b2.grown g3 b2.size (fun k hk => (o2.lt k hk).1); obtain ⟨A4, c4, hv4⟩ := own_form o3; subst hv4))
  have hZl : (xs ++ ys ++ zs).length = xs.length + ys.length + zs.length := by rw [List.length_append, List.length_append]
  have hN : Ns .u8 w3 w3.heap.size A4 (xs ++ ys ++ zs) := own_ns (e := 5) (base := w.heap.size) (c := c4) (n := 0 + xs.length + ys.length + zs.length) (by
    rw [hZl]
    simpa [nums] using o3)
  have hZb : ∀ z ∈ xs ++ ys ++ zs, 0 ≤ z ∧ z ≤ 255 := by
    intro z hz
    rcases List.mem_append.1 hz with hz | hz
    · rcases List.mem_append.1 hz with hz | hz
      · exact hby z hz
      · exact hby' z hz
    · exact hby'' z hz
  obtain ⟨L, hL⟩ : ∃ L, xs ++ ys ++ zs = L := ⟨_, rfl⟩
  have hfl : sumF [xs, ys, zs].flatten = sumF L ∧ sumF [L].flatten = sumF L := by rw [← hL]; simp
  have hemp : sumF [] = 0 := by
    unfold sumF
    rw [show sumR [] 4294967295 = 4294967295 from rfl, u32_xor _ _ (by omega) (by omega) (by omega) (by omega), Nat.xor_self]
    rfl
  rw [hL] at hN hZl hZb
  have p1 := hr.below b3
  have p2 := hr'.below b3
  have p3 := hr''.below b3
  have hc4 : L.length ≤ c4 := by
    rcases o3.2 with ⟨h1, h2⟩ | ⟨g, cap, cur, h1, _, _, h2, _⟩
    · injection h1; omega
    · injection h1; omega
  have hsz := b3.size
  have HZ := Lib.hid (And.intro hZl (And.intro hZb (And.intro hby (And.intro hby' (And.intro hby'' (And.intro hfl (And.intro hemp hc4)))))))
  clear hZl hZb hby hby' hby'' hfl hemp hc4 hL o1 o2 o3 g1 g2 g3 q1 r1 r2 at1 at2 at3 hr hr' hr''
  refine (ref_sum_at A4 c4 _ L HZ.out.1 _ w3 hN HZ.out.2.1 (by omega)).mono ?_
  rintro e w' ⟨rfl, rfl⟩
  obtain ⟨S, hS⟩ : ∃ S, sumF L = S := ⟨_, rfl⟩
  have HS := Lib.hid hS
  rw [hS]
  clear hS
  go_wp2_with fail
  refine (sum_at _ _ _ [xs, ys, zs] rfl _ _ (parts_three p1 p2 p3 hsz hlc hlc' hlc'') (by
    intro p hp
    rcases List.mem_cons.1 hp with rfl | hp
    · exact ⟨HZ.out.2.2.1, by omega⟩
    · rcases List.mem_cons.1 hp with rfl | hp
      · exact ⟨HZ.out.2.2.2.1, by omega⟩
      · rcases List.mem_cons.1 hp with rfl | hp
        · exact ⟨HZ.out.2.2.2.2.1, by omega⟩
        · cases hp) (by simp)).mono ?_
  rintro e w' ⟨rfl, rfl⟩
  rw [HZ.out.2.2.2.2.2.1.1, HS.out]
  go_wp2_with fail
  refine (sum_at _ _ _ [L] rfl _ _ (parts_one_at (by simp) HZ.out.1 (hN.alloc (Nat.le_refl _) _) (by simp) HZ.out.2.2.2.2.2.2.2) (by
    intro p hp
    rcases List.mem_cons.1 hp with rfl | hp
    · exact ⟨HZ.out.2.1, by have := HZ.out.1; omega⟩
    · cases hp) (by simp)).mono ?_
  rintro e w' ⟨rfl, rfl⟩
  rw [HZ.out.2.2.2.2.2.1.2, HS.out]
  go_wp2_with fail
  refine (sum_at none 0 0 [] rfl 0 _ (Parts.nil _) (fun p hp => by cases hp) (by simp)).mono ?_
  rintro e w' ⟨rfl, rfl⟩
  rw [show ([] : List (List Int)).flatten = [] from rfl, HZ.out.2.2.2.2.2.2.1]
  go_wp2_with fail
  go_ret
  exact ⟨rfl, ((b3.alloc hsz _).alloc (by simp; omega) _)⟩

-- ROW BEGIN
/-- What the walk gives, shut again. -/
theorem contract (H : Type) (enc : TypeId × Value → H) (W : World) (base : Nat) (args : Array Value) (ds gs : List (DataW H)) (before : List MemPlace)
    (hval : ∀ (j : Nat) t v, Try.f10.params[j]? = some t → args[j]? = some v → Value.okWide Try.prog W .any base t v)
    (hW : DataW.Whole enc Try.prog Try.f10.params.toList Rows.frameSumsSpec.vars false W args.toList ds gs before)
    (hsz : (DataW.weightsEach Try.prog (Try.f10.params.toList ++ Rows.frameSumsSpec.plain.varTypes Try.prog) (ds ++ gs)).all (· ≤ reachBytes) = true) (hk : Rows.uptoSmall H (ds ++ gs) = true) :
    Calls Try.prog 10 args W fun e W' => ∃ v, e = .returned v ∧ Rows.frameSumsSpec.post enc Try.prog Try.f10 false true false false W args v W' := by
  have hW' := hW
  obtain ⟨p, q, hA0, hV, hbef, _, _⟩ := hW
  have hA : DataW.TrodAll enc Try.prog W 0 (fun _ => true) true Try.f10.params.toList args.toList ds p := hA0
  have hA1 := hA
  rw [Try.params10] at hA hval hsz
  obtain ⟨v0, vs0, d0, ds0, p0, q0, hargs, rfl, rfl, h0, r0⟩ := trodAll_cons hA
  obtain ⟨v1, vs1, d1, ds1, p1, q1, rfl, rfl, rfl, h1, r1⟩ := trodAll_cons r0
  obtain ⟨v2, vs2, d2, ds2, p2, q2, rfl, rfl, rfl, h2, r2⟩ := trodAll_cons r1
  obtain ⟨rfl, rfl, rfl⟩ := trodAll_nil r2
  obtain rfl : args = #[v0, v1, v2] := by cases args; simp_all
  obtain ⟨rfl, rfl⟩ := trodVars_none hV
  clear hA hargs
  obtain ⟨A0, c0, a0, rfl, n0, w0, l0, _, o0⟩ := open_ns Try.underlying23 Try.underlying5 Facts.cells5 (hval 0 23 v0 rfl rfl) h0
  have b0 := reach_ns hsz (j := 0) rfl rfl Try.underlying23 Facts.bytes5 l0 o0
  obtain ⟨A1, c1, a1, rfl, n1, w1, l1, _, o1⟩ := open_ns Try.underlying23 Try.underlying5 Facts.cells5 (hval 1 23 v1 rfl rfl) h1
  have b1 := reach_ns hsz (j := 1) rfl rfl Try.underlying23 Facts.bytes5 l1 o1
  obtain ⟨A2, c2, a2, rfl, n2, w2, l2, _, o2⟩ := open_ns Try.underlying23 Try.underlying5 Facts.cells5 (hval 2 23 v2 rfl rfl) h2
  have b2 := reach_ns hsz (j := 2) rfl rfl Try.underlying23 Facts.bytes5 l2 o2
  have hbulk : a0.length + a1.length + a2.length ≤ 1048576 := by
    have h := Bulk.bound hk
    have e0 := Bulk.ns_le (H := H) o0 l0
    have e1 := Bulk.ns_le (H := H) o1 l1
    have e2 := Bulk.ns_le (H := H) o2 l2
    simp only [List.append_nil, Rows.uptoBulkAll] at h
    omega
  refine (walk W A0 c0 a0 n0 (fun z hz => wf_byte (w0 z hz)) (by omega) l0 A1 c1 a1 n1 (fun z hz => wf_byte (w1 z hz)) (by omega) l1 A2 c2 a2 n2 (fun z hz => wf_byte (w2 z hz)) (by omega) l2 hbulk).mono fun e W' ⟨he, hb⟩ => ?_
  subst he
  exact ⟨_, rfl, law_post Facts.laid (by rfl) Try.underlying4 (by rw [Try.params10]; decide +kernel) hW' hA1 rfl hbef rfl rfl rfl hb⟩

set_option maxRecDepth 100000 in
theorem lifted (os : Os) (started : os.Started) (H : Type) (enc : TypeId × Value → H) (F : Stop.Interp) :
    ReturnsInHanded {} Try.checked os 10 .any ((Rows.OpenSpec.upto Rows.frameSumsSpec).pre6 enc Try.prog Try.f10 Rows.frameSumsUptoRow.domain false) (((Rows.OpenSpec.upto Rows.frameSumsSpec).at F).post enc Try.prog Try.f10 false true false false) := by
  refine returnsInHanded_of_cond_sized (C := Try.checked) (s := Rows.OpenSpec.upto Rows.frameSumsSpec) (k := Rows.uptoSmall) rfl Facts.own started (by kernel_rfl) Try.func10
    (OpenSpec.witness (enc := enc) (C := Try.checked) (s := Rows.OpenSpec.upto Rows.frameSumsSpec) (k := Rows.uptoSmall) rfl false ⟨#[], #[.slice none 0 0, .slice none 0 0, .slice none 0 0], []⟩ 8 (by kernel_rfl) (by kernel_rfl) (by kernel_rfl)
      (x := ([.nil, .nil, .nil], [], [])) (by kernel_rfl) rfl (by kernel_rfl)) ?_
  intro W base args ds gs before hval hW _ hk hsz _
  exact contract H enc W base args ds gs before hval hW hsz hk

theorem holds : Rows.FrameSumsUptoSaid :=
  OpenClaim.holds_of_cond 10 Try.f10 rfl rfl rfl rfl rfl rfl rfl ⟨rfl, rfl, rfl, rfl, rfl⟩ rfl rfl rfl rfl rfl (by kernel_rfl) Try.func10 (by kernel_rfl)
    (of_decide_eq_true (by kernel_rfl)) (by unfold Func.isWrapper; first | (rw [if_pos (by decide +kernel)]; kernel_rfl) | (rw [if_neg (by decide +kernel)]; exact ⟨rfl, rfl⟩))
    (fun os started H enc _ F => lifted os started H enc F)
-- ROW END
end FrameSums
end Go.Proofs.Ytpgpeigaoonpcaa
