/-
  FrameKeeps (P2.5): what is handed in stays, its spare room too, and what is answered is new memory. For every input.
-/
import Derived.Test.YtpgpeigaoonpcabNext
import Derived.Test.YtpgpeigaoonpcabNextFacts
import Derived.Test.YtpgpeigaoonpcabSameTwo
import Derived.Test.YtpgpeigaoonpcabAppendWide
import Derived.Test.YtpgpeigaoonpcabRow
namespace Go.Proofs.Ytpgpeigaoonpcab
namespace FrameKeeps
open Go.ChangeShapes Go.WideShapes Go.ChangeAt Go.RowKit Num Frm

set_option maxRecDepth 100000 in
theorem walk (w : World)
    (A : Option Addr) (c : Nat) (zs : List Int) (hr : Ns .u8 w w.heap.size A zs) (hby : ∀ z ∈ zs, 0 ≤ z ∧ z ≤ 255) (hbig : zs.length ≤ 140737488351232) (hlc : zs.length ≤ c)
    (A' : Option Addr) (c' : Nat) (ys : List Int) (hr' : Ns .u8 w w.heap.size A' ys) (_hby' : ∀ z ∈ ys, 0 ≤ z ∧ z ≤ 255) (hbig' : ys.length ≤ 140737488351232) (hlc' : ys.length ≤ c') :
    Calls Try.prog 4 #[.slice A zs.length c, .slice A' ys.length c'] w fun e w' => e = .returned (.bool true) ∧ Below w.heap.size w w' := by
  by_cases hl : 1048576 < zs.length
  · clear hr hr' hby
    go_enter Try.func4, Try.ntmps4
    go_wp2_with fail
    go_ret
    exact ⟨rfl, Below.refl _ _⟩
  · obtain ⟨i0, hi0, hz0, hz1, hz2⟩ := info_parts Facts.info5
    have hl' : zs.length ≤ 1048576 := by omega
    have HB := Lib.hid hby
    have d0 : decide ((1048576 : Int) < (zs.length : Int)) = false := decide_eq_false (by omega)
    clear hby hl
    go_enter Try.func4, Try.ntmps4
    go_wp2_with (first
      | (at_builtin; refine wpList_append_ns _ rfl (.tmp 19) (.tmp 20) 22 rfl w.heap.size 5 i0 (.int .u8 0) 1 Try.underlying22 hi0 hz0 hz1 hz2 rfl (.slice none 0 0) (0) ([]) rfl (World.ownsRow_nil _ _ _ _) .u8 w.heap.size A zs.length c zs rfl rfl hr (by omega) (by omega) (Nat.le_refl _) ?_; intro v1 w1 o1 g1 at1; have b1 : Below w.heap.size w w1 := (Below.refl _ _).grown g1 (Nat.le_refl _) (by simp [Value.ownBlock]); have q1 := hr'.below b1; have p1 := hr.below b1)
      | (at_builtin; refine wpList_append_ns_wide _ rfl (.tmp 22) (.tmp 23) 22 rfl w.heap.size 5 i0 (.int .u8 0) 1 Try.underlying22 hi0 hz0 hz1 hz2 rfl _ (0 + zs.length) ([] ++ nums .u8 zs) rfl o1 .u8 w.heap.size A' ys.length c' ys rfl rfl q1 (by omega) (by omega) b1.size ?_; intro v2 w2 o2 g2; have b2 : Below w.heap.size w w2 := b1.grown g2 b1.size (fun k hk => (o1.lt k hk).1); have q2 := hr'.below b2; have p2 := hr.below b2))
    obtain ⟨A2, c2, hv2⟩ := own_form o2
    subst hv2
    have l2 := (own_len o2).2
    have l3 : zs.length ≤ c2 := by omega
    have l4 : (zs.length : Int) ≤ (c2 : Int) := by omega
    have hsz2 := b2.size
    have hm : Ns .u8 w2 w2.heap.size A2 (zs ++ ys) := own_ns (e := 5) (base := w.heap.size) (c := c2) (n := 0 + zs.length + ys.length) (by
      rw [List.length_append]
      simpa [nums] using o2)
    have hz : (zs ++ ys).take zs.length = zs := List.take_left' rfl
    have hmz := hm.take zs.length
    rw [hz] at hmz
    clear hz o1 g1 at1 p1 q1 g2 b1 hr hr'
    have hFn : nextF (frameF zs) 0 = (zs, (frameF zs).length, 0) := by simpa using nextF_put hl' [] []
    have hFb := frame_bytes HB.out
    have hFl := frame_len zs
    have hPl := putL_len (zs.length : Int)
    have h1 := fun W hr => put_any A2 c2 zs W hr HB.out l3 hl'
    have h5 := fun W hr => ref_put_any A c zs W hr HB.out (by omega)
    obtain ⟨F, hF⟩ : ∃ F, frameF zs = F := ⟨_, rfl⟩
    rw [hF] at hFn hFb hFl h1 h5
    have hF0 : 0 < F.length := by omega
    have hF1 : F.length ≤ 140737488351232 := by omega
    have h3 := fun A c W hr hlc => next_any A c F 0 W hr hFb hlc hF1 (by omega)
    rw [hFn] at h3
    have H1 := Lib.hid h1
    have H3 := Lib.hid h3
    have H5 := Lib.hid h5
    clear h1 h3 h5 hF hFn hFl hPl hFb
    rcases o2.2 with ⟨hv, h0⟩ | ⟨g, cap, cur, hv, hbg, hg, _⟩
    · obtain rfl : zs = [] := List.eq_nil_of_length_eq_zero (by omega)
      obtain rfl : ys = [] := List.eq_nil_of_length_eq_zero (by omega)
      injection hv with hv1 hv2 hv3
      subst hv1
      subst hv3
      clear o2
      simp only [List.length_nil, Nat.add_zero]
      have hc0 : ((0 : Nat) : Int) = 0 := rfl
      simp only [hc0]
      rw [run_nil_high w2 22 5 i0 Try.underlying22 hi0]
      go_wp2_with fail
      refine Calls.mono (H1.out w2 hmz) ?_
      rintro e w3 ⟨A3, c3, rfl, o3, b3⟩
      have hsz3 := b3.size
      go_wp2_with fail
      refine Calls.mono (H1.out w3 ((hmz.below b3).more hsz3)) ?_
      rintro e w4 ⟨A4, c4, rfl, o4, b4⟩
      have hsz4 := b4.size
      have x4 := own_below o3 b4 (Nat.le_refl _)
      go_wp2_with fail
      refine Calls.mono (H3.out A3 c3 w4 (own_ns x4) (own_len x4).2) ?_
      rintro e w5 ⟨A5, c5, rfl, o5, b5⟩
      obtain ⟨g3, rfl, hg3, hg3', x4'⟩ := own_rw x4 hF0
      have hg3w : g3 < w3.heap.size := by
        obtain ⟨g', e1, _, e2, _⟩ := own_rw o3 hF0
        injection e1 with e1
        injection e1 with e1
        omega
      obtain ⟨g4, hA4, hg4, hg4', _⟩ := own_rw o4 hF0
      subst hA4
      have y4 := own_ns o4
      have i5 : 0 < ([] : List Int).length → ∃ g5, A5 = some ⟨g5, 0, none⟩ ∧ w4.heap.size ≤ g5 ∧ Rw .u8 w5 g5 ([] : List Int).length := fun h0 => by
        obtain ⟨g5, e1, e2, _, e3⟩ := own_rw o5 h0
        exact ⟨g5, e1, e2, e3⟩
      have hm4 := (hm.below b3).below (b4.mono hsz3)
      have hmz4 := (hmz.below b3).below (b4.mono hsz3)
      have q4 := (q2.below (b3.mono hsz2)).below (b4.mono (Nat.le_trans hsz2 hsz3))
      have p4 := (p2.below (b3.mono hsz2)).below (b4.mono (Nat.le_trans hsz2 hsz3))
      have b04 := (b2.trans (b3.mono hsz2)).trans (b4.mono (Nat.le_trans hsz2 hsz3))
      have hl5 := (own_len o5).2
      have hl3 := (own_len x4).2
      have hsz5 := b5.size
      clear hm hmz q2 p2 o3 o4 o5 x4 b3 b4 b2
      have HX := Lib.hid (And.intro x4' (And.intro y4 (And.intro hm4 (And.intro hmz4 (And.intro q4 (And.intro p4 b04))))))
      clear x4' y4 hm4 hmz4 q4 p4 b04
      go_wp2_with fail
      go_loopw [14] (fun q wr => ∃ k : Nat, k ≤ ([] : List Int).length ∧ q = .int .i64 k ∧ Hid (0 < ([] : List Int).length → ∃ g5, A5 = some ⟨g5, 0, none⟩ ∧ w4.heap.size ≤ g5 ∧ Rw .u8 wr g5 ([] : List Int).length) ∧ Below w4.heap.size w4 wr) (fun q _ => ([] : List Int).length - (intOf q).toNat)
      case atStart => exact ⟨0, by omega, rfl, Lib.hid i5, b5⟩
      case round =>
        obtain ⟨k, hk, rfl, hin, hb⟩ := hrel
        by_cases h4 : k < ([] : List Int).length
        · exact absurd h4 (by simp)
        · have hk0 : k = ([] : List Int).length := by omega
          subst hk0
          clear hin i5
          go_wp2_with fail
          have hxr : Rw .u8 wr g3 F.length := HX.out.1.keep (hb.block g3 hg3')
          have hszr := hb.size
          go_loopw [15] (fun q W => ∃ k : Nat, k ≤ F.length ∧ q = .int .i64 k ∧ Hid (Rw .u8 W g3 F.length) ∧ wr.grownBy W (some g3)) (fun q _ => F.length - (intOf q).toNat)
          case atStart => exact ⟨0, by omega, rfl, Lib.hid hxr, World.grownBy.refl _ _⟩
          case round =>
            obtain ⟨k, hk, rfl, hin, hgb⟩ := hrel
            by_cases h4 : k < F.length
            · obtain ⟨z, hz⟩ := hin.out.cell k h4
              have hfz := hin.out.frozen k
              clear hxr
              go_wp2
              case roundEnd =>
                exact ⟨⟨k + 1, by omega, rfl, Lib.hid (hin.out.set k _), hgb.trans (grown_set _ _ _ _)⟩, by simp only [intOf]; omega⟩
            · have hk0 : k = F.length := by omega
              subst hk0
              clear hin hxr
              obtain ⟨_, y4, hm4, hmz4, q4, p4, b04⟩ := HX.out
              have hsw : w.heap.size ≤ w4.heap.size := b04.size
              have n1 := (y4.below hb).other (hgb.block g4 (by omega) (fun e => by injection e with e; omega))
              have n2 := (hmz4.below (hb.mono (by omega))).grown hgb (by omega) (fun j e => by injection e with e; omega)
              have n4 := (q4.below (hb.mono hsw)).grown hgb (by omega) (fun j e => by injection e with e; omega)
              have n5 := (p4.below (hb.mono hsw)).grown hgb (by omega) (fun j e => by injection e with e; omega)
              have bW := (b04.trans (hb.mono hsw)).grown hgb (by omega) (fun j e => by injection e with e; omega)
              have hszW := hgb.size
              clear y4 hm4 hmz4 q4 p4 b04 HX
              go_wp2_with fail
              refine Calls.mono (H5.out _ (n5.more (by omega))) ?_
              rintro e w6 ⟨A6, c6, rfl, o6, b6⟩
              have n7 := own_ns o6
              clear o6
              have k1 := n1.below (b6.mono (show w4.heap.size ≤ _ by omega))
              have k2 := n2.below (b6.mono (show w2.heap.size ≤ _ by omega))
              have k4 := n4.below (b6.mono (show w.heap.size ≤ _ by omega))
              have k5 := n5.below (b6.mono (show w.heap.size ≤ _ by omega))
              have b06 := bW.trans (b6.mono (by omega))
              clear n1 n2 n4 n5 bW b6
              go_wp2_with fail
              refine Calls.mono (Frm.same2_yes _ _ _ _ F.length F.length F rfl rfl _ _ w6 k1 n7) ?_
              rintro e w' ⟨rfl, rfl⟩
              go_wp2_with fail
              refine Calls.mono (Frm.same2_yes _ _ _ _ ([] : List Int).length ([] : List Int).length [] rfl rfl _ _ w6 k2 k5) ?_
              rintro e w' ⟨rfl, rfl⟩
              go_wp2_with fail
              all_goals
                refine Calls.mono (Frm.same2_yes _ _ _ _ ([] : List Int).length ([] : List Int).length [] rfl rfl w2.heap.size w.heap.size w6 (Ns.nil _) k4) ?_
                rintro e w' ⟨rfl, rfl⟩
                go_wp2_with fail
                go_ret
                exact ⟨rfl, b06⟩
    · injection hv with hv1 hv2 hv3
      subst hv1
      subst hv3
      clear o2 hg
      go_wp2_with fail
      refine Calls.mono (H1.out w2 hmz) ?_
      rintro e w3 ⟨A3, c3, rfl, o3, b3⟩
      have hsz3 := b3.size
      go_wp2_with fail
      refine Calls.mono (H1.out w3 ((hmz.below b3).more hsz3)) ?_
      rintro e w4 ⟨A4, c4, rfl, o4, b4⟩
      have hsz4 := b4.size
      have x4 := own_below o3 b4 (Nat.le_refl _)
      go_wp2_with fail
      refine Calls.mono (H3.out A3 c3 w4 (own_ns x4) (own_len x4).2) ?_
      rintro e w5 ⟨A5, c5, rfl, o5, b5⟩
      obtain ⟨g3, rfl, hg3, hg3', x4'⟩ := own_rw x4 hF0
      have hg3w : g3 < w3.heap.size := by
        obtain ⟨g', e1, _, e2, _⟩ := own_rw o3 hF0
        injection e1 with e1
        injection e1 with e1
        omega
      obtain ⟨g4, hA4, hg4, hg4', _⟩ := own_rw o4 hF0
      subst hA4
      have y4 := own_ns o4
      have i5 : 0 < zs.length → ∃ g5, A5 = some ⟨g5, 0, none⟩ ∧ w4.heap.size ≤ g5 ∧ Rw .u8 w5 g5 zs.length := fun h0 => by
        obtain ⟨g5, e1, e2, _, e3⟩ := own_rw o5 h0
        exact ⟨g5, e1, e2, e3⟩
      have hm4 := (hm.below b3).below (b4.mono hsz3)
      have hmz4 := (hmz.below b3).below (b4.mono hsz3)
      have q4 := (q2.below (b3.mono hsz2)).below (b4.mono (Nat.le_trans hsz2 hsz3))
      have p4 := (p2.below (b3.mono hsz2)).below (b4.mono (Nat.le_trans hsz2 hsz3))
      have b04 := (b2.trans (b3.mono hsz2)).trans (b4.mono (Nat.le_trans hsz2 hsz3))
      have hl5 := (own_len o5).2
      have hl3 := (own_len x4).2
      have hsz5 := b5.size
      clear hm hmz q2 p2 o3 o4 o5 x4 b3 b4 b2
      have HX := Lib.hid (And.intro x4' (And.intro y4 (And.intro hm4 (And.intro hmz4 (And.intro q4 (And.intro p4 b04))))))
      clear x4' y4 hm4 hmz4 q4 p4 b04
      go_wp2_with fail
      go_loopw [14] (fun q wr => ∃ k : Nat, k ≤ zs.length ∧ q = .int .i64 k ∧ Hid (0 < zs.length → ∃ g5, A5 = some ⟨g5, 0, none⟩ ∧ w4.heap.size ≤ g5 ∧ Rw .u8 wr g5 zs.length) ∧ Below w4.heap.size w4 wr) (fun q _ => zs.length - (intOf q).toNat)
      case atStart => exact ⟨0, by omega, rfl, Lib.hid i5, b5⟩
      case round =>
        obtain ⟨k, hk, rfl, hin, hb⟩ := hrel
        by_cases h4 : k < zs.length
        · obtain ⟨g5, hA5, hg5, hrw⟩ := hin.out (by omega)
          subst hA5
          obtain ⟨z, hz⟩ := hrw.cell k h4
          have hfz := hrw.frozen k
          have HR := Lib.hid hrw
          clear hin hrw i5
          go_wp2
          case roundEnd =>
            exact ⟨⟨k + 1, by omega, rfl, Lib.hid (fun _ => ⟨g5, rfl, hg5, HR.out.set k _⟩), hb.setCell hg5 _⟩, by simp only [intOf]; omega⟩
        · have hk0 : k = zs.length := by omega
          subst hk0
          clear hin i5
          go_wp2_with fail
          have hxr : Rw .u8 wr g3 F.length := HX.out.1.keep (hb.block g3 hg3')
          have hszr := hb.size
          go_loopw [15] (fun q W => ∃ k : Nat, k ≤ F.length ∧ q = .int .i64 k ∧ Hid (Rw .u8 W g3 F.length) ∧ wr.grownBy W (some g3)) (fun q _ => F.length - (intOf q).toNat)
          case atStart => exact ⟨0, by omega, rfl, Lib.hid hxr, World.grownBy.refl _ _⟩
          case round =>
            obtain ⟨k, hk, rfl, hin, hgb⟩ := hrel
            by_cases h4 : k < F.length
            · obtain ⟨z, hz⟩ := hin.out.cell k h4
              have hfz := hin.out.frozen k
              clear hxr
              go_wp2
              case roundEnd =>
                exact ⟨⟨k + 1, by omega, rfl, Lib.hid (hin.out.set k _), hgb.trans (grown_set _ _ _ _)⟩, by simp only [intOf]; omega⟩
            · have hk0 : k = F.length := by omega
              subst hk0
              clear hin hxr
              obtain ⟨_, y4, hm4, hmz4, q4, p4, b04⟩ := HX.out
              have hsw : w.heap.size ≤ w4.heap.size := b04.size
              have n1 := (y4.below hb).other (hgb.block g4 (by omega) (fun e => by injection e with e; omega))
              have n2 := (hmz4.below (hb.mono (by omega))).grown hgb (by omega) (fun j e => by injection e with e; omega)
              have n3 := (hm4.below (hb.mono (by omega))).grown hgb (by omega) (fun j e => by injection e with e; omega)
              have n4 := (q4.below (hb.mono hsw)).grown hgb (by omega) (fun j e => by injection e with e; omega)
              have n5 := (p4.below (hb.mono hsw)).grown hgb (by omega) (fun j e => by injection e with e; omega)
              have bW := (b04.trans (hb.mono hsw)).grown hgb (by omega) (fun j e => by injection e with e; omega)
              have n6 := n3.cut zs.length ys.length
              have hd : ((zs ++ ys).drop zs.length).take ys.length = ys := by rw [List.drop_left' rfl, List.take_of_length_le (Nat.le_refl _)]
              rw [hd] at n6
              have hszW := hgb.size
              clear y4 hm4 hmz4 q4 p4 b04 n3 hd HX
              go_wp2_with fail
              refine Calls.mono (H5.out _ (n5.more (by omega))) ?_
              rintro e w6 ⟨A6, c6, rfl, o6, b6⟩
              have n7 := own_ns o6
              clear o6
              have k1 := n1.below (b6.mono (show w4.heap.size ≤ _ by omega))
              have k2 := n2.below (b6.mono (show w2.heap.size ≤ _ by omega))
              have k4 := n4.below (b6.mono (show w.heap.size ≤ _ by omega))
              have k5 := n5.below (b6.mono (show w.heap.size ≤ _ by omega))
              have k6 := n6.below (b6.mono (show w2.heap.size ≤ _ by omega))
              have b06 := bW.trans (b6.mono (by omega))
              clear n1 n2 n4 n5 n6 bW b6
              go_wp2_with fail
              refine Calls.mono (Frm.same2_yes _ _ _ _ F.length F.length F rfl rfl _ _ w6 k1 n7) ?_
              rintro e w' ⟨rfl, rfl⟩
              go_wp2_with fail
              refine Calls.mono (Frm.same2_yes _ _ _ _ zs.length zs.length zs rfl rfl _ _ w6 k2 k5) ?_
              rintro e w' ⟨rfl, rfl⟩
              rw [Nat.zero_add] at k6
              go_wp2_with fail
              all_goals
                refine Calls.mono (Frm.same2_yes _ _ _ _ ys.length ys.length ys rfl rfl w2.heap.size w.heap.size w6 (by first | exact k6 | exact none0 rfl (by omega)) k4) ?_
                rintro e w' ⟨rfl, rfl⟩
                go_wp2_with fail
                go_ret
                exact ⟨rfl, b06⟩
-- ROW BEGIN
/-- What the walk gives, shut again. -/
theorem contract (H : Type) (enc : TypeId × Value → H) (W : World) (base : Nat) (args : Array Value) (ds gs : List (DataW H)) (before : List MemPlace)
    (hval : ∀ (j : Nat) t v, Try.f4.params[j]? = some t → args[j]? = some v → Value.okWide Try.prog W .any base t v)
    (hW : DataW.Whole enc Try.prog Try.f4.params.toList Rows.frameKeepsSpec.vars false W args.toList ds gs before)
    (hsz : (DataW.weightsEach Try.prog (Try.f4.params.toList ++ Rows.frameKeepsSpec.plain.varTypes Try.prog) (ds ++ gs)).all (· ≤ reachBytes) = true) :
    Calls Try.prog 4 args W fun e W' => ∃ v, e = .returned v ∧ Rows.frameKeepsSpec.post enc Try.prog Try.f4 false true false false W args v W' := by
  have hW' := hW
  obtain ⟨p, q, hA0, hV, hbef, _, _⟩ := hW
  have hA : DataW.TrodAll enc Try.prog W 0 (fun _ => true) true Try.f4.params.toList args.toList ds p := hA0
  have hA1 := hA
  rw [Try.params4] at hA hval hsz
  obtain ⟨v0, vs0, d0, ds0, p0, q0, hargs, rfl, rfl, h0, r0⟩ := trodAll_cons hA
  obtain ⟨v1, vs1, d1, ds1, p1, q1, rfl, rfl, rfl, h1, r1⟩ := trodAll_cons r0
  obtain ⟨rfl, rfl, rfl⟩ := trodAll_nil r1
  obtain rfl : args = #[v0, v1] := by cases args; simp_all
  obtain ⟨rfl, rfl⟩ := trodVars_none hV
  clear hA hargs
  obtain ⟨A0, c0, a0, rfl, n0, w0, l0, _, o0⟩ := open_ns Try.underlying22 Try.underlying5 Facts.cells5 (hval 0 22 v0 rfl rfl) h0
  have b0 := reach_ns hsz (j := 0) rfl rfl Try.underlying22 Facts.bytes5 l0 o0
  obtain ⟨A1, c1, a1, rfl, n1, w1, l1, _, o1⟩ := open_ns Try.underlying22 Try.underlying5 Facts.cells5 (hval 1 22 v1 rfl rfl) h1
  have b1 := reach_ns hsz (j := 1) rfl rfl Try.underlying22 Facts.bytes5 l1 o1
  refine (walk W A0 c0 a0 n0 (fun z hz => wf_byte (w0 z hz)) (by omega) l0 A1 c1 a1 n1 (fun z hz => wf_byte (w1 z hz)) (by omega) l1).mono fun e W' ⟨he, hb⟩ => ?_
  subst he
  exact ⟨_, rfl, law_post Facts.laid (by rfl) Try.underlying4 (by rw [Try.params4]; decide +kernel) hW' hA1 rfl hbef rfl rfl rfl hb⟩

set_option maxRecDepth 100000 in
theorem lifted (os : Os) (started : os.Started) (H : Type) (enc : TypeId × Value → H) :
    ReturnsInHanded {} Try.checked os 4 .any (Rows.frameKeepsSpec.pre6 enc Try.prog Try.f4 Rows.frameKeepsRow.domain false) (Rows.frameKeepsSpec.post enc Try.prog Try.f4 false true false false) := by
  refine returnsInHanded_of_change_sized (C := Try.checked) Facts.own started (by kernel_rfl) Try.func4
    (ChangeSpec.witness6 (enc := enc) (C := Try.checked) false ⟨#[], #[.slice none 0 0, .slice none 0 0], []⟩ 8 (by kernel_rfl) (by kernel_rfl) (by kernel_rfl) (by kernel_rfl)) ?_
  intro W base args ds gs before hval hW _ hsz _
  exact contract H enc W base args ds gs before hval hW hsz

theorem holds : Rows.FrameKeepsSaid :=
  OpenClaim.holds_of_wide 4 Try.f4 rfl rfl rfl rfl rfl rfl rfl ⟨rfl, rfl, rfl, rfl, rfl⟩ rfl rfl rfl rfl rfl (by kernel_rfl) Try.func4 (by kernel_rfl)
    (of_decide_eq_true (by kernel_rfl)) (by unfold Func.isWrapper; first | (rw [if_pos (by decide +kernel)]; kernel_rfl) | (rw [if_neg (by decide +kernel)]; exact ⟨rfl, rfl⟩))
    (fun os started H enc _ => lifted os started H enc)
-- ROW END
end FrameKeeps
end Go.Proofs.Ytpgpeigaoonpcab
