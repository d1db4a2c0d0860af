/-
  InboxAll (P18.3): writes that came one behind the other, told in any order, as often as one likes, are all handed on, if there is room for them. For every input.
-/
import Derived.Test.YtiempgabamheiaaInboxArgs
import Derived.Test.YtiempgabamheiaaInboxAwake
import Derived.Test.YtiempgabamheiaaInboxAllRow
import Derived.Test.YtiempgabamheiaaGLook
import Derived.Test.YtiempgabamheiaaCodeSame
import Derived.Test.YtiempgabamheiaaGBase
import Derived.Deep.DeepCutAuto
import Derived.Deep.LoopGhost
namespace Go.Proofs.Ytiempgabamheiaa
namespace InboxAll
open Go.ChangeShapes Go.WideShapes Go.ChangeAt Go.RowKit Inbox Vers Span Blk
attribute [local go_sem ↓] Go.wp_at_zero Go.wp_at_succ

set_option maxRecDepth 100000 in
set_option maxHeartbeats 8000000 in
theorem walk (w : World) (Aa : Option Addr) (ca : Nat) (ss : List Int) (hss : Ns .u8 w w.heap.size Aa ss) (hsw : ∀ z ∈ ss, 0 ≤ z ∧ z ≤ 255) (hsbig : ss.length ≤ 140737488355328) (_hlca : ss.length ≤ ca)
    (Ab : Option Addr) (cb : Nat) (bs : List Int) (hbs : Ns .u8 w w.heap.size Ab bs) (hbw : ∀ z ∈ bs, 0 ≤ z ∧ z ≤ 255) (hbbig : bs.length ≤ 140737488355328) (_hlcb : bs.length ≤ cb)
    (Ao : Option Addr) (co : Nat) (os : List Int) (hos : Ns .i64 w w.heap.size Ao os) (_hwf : ∀ z ∈ os, -9223372036854775808 ≤ z ∧ z ≤ 9223372036854775807) (hobig : os.length * 8 ≤ 140737488351232) (_hlco : os.length ≤ co) :
    Calls Try.prog 5 #[.slice Aa ss.length ca, .slice Ab bs.length cb, .slice Ao os.length co] w fun e w' => e = .returned (.bool true) ∧ Below w.heap.size w w' := by
  obtain ⟨n, hn⟩ : ∃ n, ss.length = n := ⟨_, rfl⟩
  obtain ⟨nb0, hnb0⟩ : ∃ n, bs.length = n := ⟨_, rfl⟩
  obtain ⟨no, hno⟩ : ∃ n, os.length = n := ⟨_, rfl⟩
  rw [hn] at hsbig
  rw [hnb0] at hbbig
  rw [hno] at hobig
  rw [hn, hnb0, hno]
  have HAW := Lib.hid (fun W => awake_any W)
  have HS := Lib.hid (And.intro hss (And.intro hn hsw))
  have HB := Lib.hid (And.intro hbs (And.intro hnb0 hbw))
  have HO := Lib.hid (And.intro hos hno)
  obtain ⟨i0, hi0, hz0, hz1, hz2⟩ := info_span
  obtain ⟨j0, hj0, hy0, hy1, hy2⟩ := info_parts info_far
  have HI := Lib.hid (And.intro (And.intro hi0 (And.intro hz0 (And.intro hz1 hz2))) (And.intro hj0 (And.intro hy0 (And.intro hy1 hy2))))
  clear hss hn hsw hbs hnb0 hbw hos hno _hlca _hlcb _hlco _hwf hj0 hy0 hy1 hy2 hi0 hz0 hz1 hz2
  by_cases hn60 : n ≤ 60
  · have d0 : ¬ (60 : Int) < (n : Int) := by omega
    have HN60 := Lib.hid hn60
    go_enter Try.func5, Try.ntmps5
    go_wp2_with fail
    refine (HAW.out w).mono ?_
    rintro e w1 ⟨rfl, b1⟩
    obtain ⟨W2, hW2⟩ : ∃ W, w1.alloc (.cells #[.int .i64 0, .int .i64 0, .int .i64 0] 2) = W := ⟨_, rfl⟩
    have b2 : Below w1.heap.size w1 W2 := by rw [← hW2]; exact (Below.refl _ w1).alloc (Nat.le_refl _) _
    have s2 : W2.heap.size = w1.heap.size + 1 := by rw [← hW2]; simp
    have B2 : Bn w1.heap.size 2 [.int .i64 0, .int .i64 0, .int .i64 0] W2 := by rw [← hW2]; exact heap_alloc_new w1 _
    obtain ⟨VB, hVB⟩ : ∃ r, w1.heap.size = r := ⟨_, rfl⟩
    have hb2 := b1.trans (b2.mono b1.size)
    have hwVB : w.heap.size ≤ VB := by rw [← hVB]; exact b1.size
    rw [hVB] at B2 s2
    have HW2 := Lib.hid (And.intro hW2 hVB)
    have HST : Hid (okH [] ∧ Row (VB + 1) W2 none 0 0 (lst []) ∧ Bn VB 2 (nums .i64 (vec [])) W2 ∧ Below w.heap.size w W2 ∧ VB + 1 ≤ W2.heap.size) := Lib.hid ⟨trivial, Row.nil _ _, B2, hb2, by omega⟩
    clear hW2 hVB b1 b2 s2 B2 hb2 HAW
    go_upto_region 5 with fail
    rw [HW2.out.1, HW2.out.2]
    clear HW2
    go_wp2_with fail
    go_loopw [7, 9, 10, 11, 12] (fun qa q _ _ _ wr => ∃ (k c : Nat) (A : Option Addr) (h : Hs), q = .int .i64 k ∧ qa = .slice A k c ∧ k ≤ n ∧ h.length = k ∧ Hid (okH h ∧ Row (VB + 1) wr A c k (lst h) ∧ Bn VB 2 (nums .i64 (vec h)) wr ∧ Below w.heap.size w wr ∧ VB + 1 ≤ wr.heap.size)) (fun _ q _ _ _ _ => n - (intOf q).toNat)
    case atStart => exact ⟨0, 0, none, [], rfl, rfl, by omega, rfl, HST⟩
    case round =>
      clear HST
      obtain ⟨k, c, A, h, rfl, rfl, hk, hhl, hst⟩ := hrel
      obtain ⟨wa, hwa⟩ : ∃ W, W = wr := ⟨_, rfl⟩
      subst hwa
      by_cases hlt : k < n
      · obtain ⟨ba, oa, rfl, hbla, hata⟩ := HS.out.1 (by have := HS.out.2.1; omega)
        have z0 := hata k (by have := HS.out.2.1; omega)
        obtain ⟨z, hz⟩ : ∃ z, ss.getD k 0 = z := ⟨_, rfl⟩
        have hzz : 0 ≤ z ∧ z ≤ 255 := by
          have hk' : k < ss.length := by have := HS.out.2.1; omega
          rw [← hz, List.getD_eq_getElem?_getD, List.getElem?_eq_getElem hk']
          exact HS.out.2.2 _ (List.getElem_mem _)
        rw [hz] at z0
        have z1 := (hst.out.2.2.2.1.cell (p := ⟨ba, oa + k, none⟩) hbla).trans z0
        obtain ⟨ro, rfl⟩ : ∃ r : Nat, z = (r : Int) := ⟨z.toNat, by omega⟩
        obtain ⟨r, hr⟩ : ∃ r, ro % 3 = r := ⟨_, rfl⟩
        have hr3 : r < 3 := by omega
        obtain ⟨x, hx⟩ : ∃ x, (vec h).getD r 0 = x := ⟨_, rfl⟩
        have hxp := vec_pos hst.out.1 r
        rw [hx, hhl] at hxp
        have y1 : wa.cell? ⟨VB, r, none⟩ = some (.int .i64 x) := by
          rw [hst.out.2.2.1.cell r, nums, List.getElem?_map, List.getElem?_eq_getElem (by rw [vec_len]; exact hr3), ← hx, List.getD_eq_getElem?_getD, List.getElem?_eq_getElem (by rw [vec_len]; exact hr3)]
          rfl
        have e1 : (ro : Int).tmod 3 = (r : Int) := by rw [Int.tmod_eq_emod_of_nonneg (by omega)]; omega
        have e2 : IntKind.u8.wrap (r : Int) = (r : Int) := by rw [IntKind.wrap_u8]; omega
        have e3 : IntKind.i64.wrap (r : Int) = (r : Int) := IntWalk.i64_in _ (by omega)
        have e4 : IntKind.i64.wrap (1 + (r : Int)) = 1 + (r : Int) := IntWalk.i64_in _ (by omega)
        have e5 : IntKind.i64.wrap (x + 1) = x + 1 := IntWalk.i64_in _ (by omega)
        have d1 : (0 : Int) ≤ (k : Int) := by omega
        have d2 : (k : Int) < (n : Int) := by omega
        have d3 : (0 : Int) ≤ (r : Int) := by omega
        have d4 : (r : Int) < 3 := by omega
        obtain ⟨xb, hxb⟩ : ∃ k, wa.heap.size = k := ⟨_, rfl⟩
        obtain ⟨W8, hW8⟩ : ∃ W, wa.alloc (.cells #[.int .i64 (1 + (r : Int)), .int .i64 (x + 1), .slice none 0 0, .bool false, .string ⟨#[]⟩] 59) = W := ⟨_, rfl⟩
        have b8 : Below wa.heap.size wa W8 := by rw [← hW8]; exact (Below.refl _ wa).alloc (Nat.le_refl _) _
        have B8 : Bn wa.heap.size 59 [.int .i64 (1 + (r : Int)), .int .i64 (x + 1), .slice none 0 0, .bool false, .string ⟨#[]⟩] W8 := by rw [← hW8]; exact heap_alloc_new wa _
        have hxbn : VB + 1 ≤ xb := by rw [← hxb]; exact hst.out.2.2.2.2
        rw [hxb] at b8 B8
        have HW8 := Lib.hid (And.intro hW8 hxb)
        have HIN : Hid (([] : List Sp).length = 0 ∧ pst (vec h) [] ∧ (∀ x ∈ ([] : List Sp), x.1 < (1 : Nat)) ∧ Bn xb 59 [.int .i64 (1 + (r : Int)), .int .i64 (x + 1), .slice none 0 0, .bool false, .string ⟨#[]⟩] W8 ∧ W8.ownsRow (xb + 1) 69 3 (.slice none 0 0) 0 (sps []) ∧ Below xb wa W8) := Lib.hid ⟨rfl, ⟨List.Pairwise.nil, by simp⟩, by simp, B8, World.ownsRow_nil _ _ _ _, b8⟩
        have HX := Lib.hid (And.intro hx hhl)
        clear hata z0 hz hr hzz hx hW8 b8 B8
        have HBL : Hid (xb = wa.heap.size ∧ VB + 1 ≤ xb) := Lib.hid ⟨hxb.symm, hxbn⟩
        go_upto_block 2 with fail
        rw [HW8.out.1, show (1 + r - 1 : Nat) = r by omega]
        clear z1 y1 hxb hxbn
        go_cut [12] (fun q V => ∃ (j np cp : Nat) (Ap : Option Addr) (p : List Sp), q = .int .i64 j ∧ np ≤ 3 ∧ p.length = np ∧ Hid (pst (vec h) p ∧ (∀ x ∈ p, x.1 < (j : Int)) ∧ Bn xb 59 [.int .i64 (1 + (r : Int)), .int .i64 (x + 1), .slice Ap np cp, .bool false, .string ⟨#[]⟩] V ∧ V.ownsRow (xb + 1) 69 3 (.slice Ap np cp) np (sps p) ∧ Below xb wa V))
        case first =>
          go_wp2_with fail
          go_loopw [12] (fun q wr => ∃ (j np cp : Nat) (Ap : Option Addr) (p : List Sp), q = .int .i64 j ∧ 1 ≤ j ∧ j ≤ 4 ∧ np ≤ 3 ∧ p.length = np ∧ Hid (pst (vec h) p ∧ (∀ x ∈ p, x.1 < (j : Int)) ∧ Bn xb 59 [.int .i64 (1 + (r : Int)), .int .i64 (x + 1), .slice Ap np cp, .bool false, .string ⟨#[]⟩] wr ∧ wr.ownsRow (xb + 1) 69 3 (.slice Ap np cp) np (sps p) ∧ Below xb wa wr)) (fun q _ => 4 - (intOf q).toNat)
          case atStart => exact ⟨1, 0, 0, none, [], rfl, by omega, by omega, by omega, rfl, Lib.hid ⟨HIN.out.2.1, by simp, HIN.out.2.2.2.1, HIN.out.2.2.2.2.1, HIN.out.2.2.2.2.2⟩⟩
          case round =>
            clear HIN
            obtain ⟨j, np, cp, Ap, p, rfl, hj1, hj4, hnp, hpl, hst2⟩ := hrel
            by_cases hj3 : j ≤ 3
            · have g1 : (j : Int) ≤ 3 := by omega
              by_cases hkb : k < nb0
              · have g2 : (k : Int) < (nb0 : Int) := by omega
                obtain ⟨t, rfl⟩ : ∃ t, j = t + 1 := ⟨j - 1, by omega⟩
                obtain ⟨bb, ob, rfl, hblb, hatb⟩ := HB.out.1 (by have := HB.out.2.1; omega)
                have z0 := hatb k (by have := HB.out.2.1; omega)
                obtain ⟨z, hz⟩ : ∃ z, bs.getD k 0 = z := ⟨_, rfl⟩
                have hzz : 0 ≤ z ∧ z ≤ 255 := by
                  have hk' : k < bs.length := by have := HB.out.2.1; omega
                  rw [← hz, List.getD_eq_getElem?_getD, List.getElem?_eq_getElem hk']
                  exact HB.out.2.2 _ (List.getElem_mem _)
                rw [hz] at z0
                have hbb2 := hst.out.2.2.2.1.trans ((hst2.out.2.2.2.2.mono (by rw [HBL.out.1]; exact hst.out.2.2.2.1.size)))
                have z1 := (hbb2.cell (p := ⟨bb, ob + k, none⟩) hblb).trans z0
                obtain ⟨y, hy⟩ : ∃ y, (vec h).getD t 0 = y := ⟨_, rfl⟩
                have y1 : wr.cell? ⟨VB, t, none⟩ = some (.int .i64 y) := by
                  have hB := hst.out.2.2.1
                  rw [(hB.same (hst2.out.2.2.2.2.block _ (by have := HBL.out.2; omega))).cell t, nums, List.getElem?_map, List.getElem?_eq_getElem (by rw [vec_len]; omega), ← hy, List.getD_eq_getElem?_getD, List.getElem?_eq_getElem (by rw [vec_len]; omega)]
                  rfl
                have f1 : IntKind.i64.wrap (t : Int) = (t : Int) := IntWalk.i64_in _ (by omega)
                have f2 : IntKind.u64.wrap ((t : Int) + 1) = (t : Int) + 1 := by rw [IntKind.wrap_u64]; omega
                have f3 : (0 : Int) ≤ (t : Int) := by omega
                have f4 : (t : Int) < 3 := by omega
                have f5 : IntKind.i64.wrap ((t : Int) + 1) = (t : Int) + 1 := IntWalk.i64_in _ (by omega)
                obtain ⟨q, hq⟩ : ∃ q, (bits BinOp.and IntKind.u8 (z / 2 ^ (t + 1)) 1 == 1) = q := ⟨_, rfl⟩
                have f6 : IntKind.i64.wrap ((t : Int) + 1 + 1) = (t : Int) + 1 + 1 := IntWalk.i64_in _ (by omega)
                have hyx : y ≤ (k : Int) := by have := (vec_pos hst.out.1 t).2; rw [hy, HX.out.2] at this; exact this
                cases q
                · have HN : Hid (pst (vec h) p ∧ (∀ x ∈ p, x.1 < ((t + 1 + 1 : Nat) : Int)) ∧ Bn xb 59 [.int .i64 (1 + (r : Int)), .int .i64 (x + 1), .slice Ap np cp, .bool false, .string ⟨#[]⟩] wr ∧ wr.ownsRow (xb + 1) 69 3 (.slice Ap np cp) np (sps p) ∧ Below xb wa wr) := Lib.hid ⟨hst2.out.1, fun x hx => by have := hst2.out.2.1 x hx; omega, hst2.out.2.2⟩
                  clear hst2
                  go_wp2_with fail
                  go_roundw
                  case rel => exact ⟨t + 1 + 1, np, cp, Ap, p, rfl, by omega, by omega, hnp, hpl, HN⟩
                  case measure => simp only [intOf]; omega
                · by_cases hy0 : 0 < y
                  · have hp3 : np ≤ 2 := by
                      have hS := hst2.out.1
                      have hlt3 := hst2.out.2.1
                      rw [← hpl]
                      exact pst_two hS.1 (fun x hx => (hS.2 x hx).1) fun x hx => by have := hlt3 x hx; omega
                    have HPN : Hid (pst (vec h) (p ++ [((t : Int) + 1, 1, y)]) ∧ (∀ x ∈ p ++ [((t : Int) + 1, 1, y)], x.1 < ((t + 1 + 1 : Nat) : Int)) ∧ (p ++ [((t : Int) + 1, 1, y)]).length = np + 1) := Lib.hid (by
                      have hS := hst2.out.1
                      have hlt3 := hst2.out.2.1
                      refine ⟨⟨?_, fun z hz => ?_⟩, fun z hz => ?_, by rw [List.length_append, hpl]; rfl⟩
                      · rw [List.pairwise_append]
                        refine ⟨hS.1, List.pairwise_singleton _ _, fun a ha b hb => ?_⟩
                        obtain rfl := List.mem_singleton.1 hb
                        have := hlt3 a ha
                        simp only
                        omega
                      · rcases List.mem_append.1 hz with hz | hz
                        · exact hS.2 z hz
                        · obtain rfl := List.mem_singleton.1 hz
                          simp only
                          refine ⟨by omega, by omega, trivial, hy0, ?_⟩
                          rw [show ((t : Int) + 1 - 1).toNat = t by omega]
                          exact hy.symm
                      · rcases List.mem_append.1 hz with hz | hz
                        · have := hlt3 z hz
                          omega
                        · obtain rfl := List.mem_singleton.1 hz
                          simp only
                          omega)
                    have x2 := (hst2.out.2.2.1.cell 2).trans rfl
                    obtain ⟨hi0, hz0, hz1, hz2⟩ := HI.out.1
                    have hxs : xb + 1 ≤ wr.heap.size := hst2.out.2.2.1.lt
                    have x2A := (World.cell?_alloc_lt wr (.cells #[.int .i64 ((t : Int) + 1), .int .i64 1, .int .i64 y] 69) ⟨xb, 2, none⟩ hxs).trans x2
                    have y1A := (World.cell?_alloc_lt wr (.cells #[.int .i64 ((t : Int) + 1), .int .i64 1, .int .i64 y] 69) ⟨VB, t, none⟩ (by have := HBL.out.2; show VB < _; omega)).trans y1
                    have hOA : (wr.drew.alloc (.cells #[.int .i64 ((t : Int) + 1), .int .i64 1, .int .i64 y] 69)).ownsRow (xb + 1) 69 3 (.slice Ap np cp) np (sps p) := (show wr.drew.ownsRow (xb + 1) 69 3 (.slice Ap np cp) np (sps p) from hst2.out.2.2.2.1).alloc _
                    have hBA : Bn xb 59 [.int .i64 (1 + (r : Int)), .int .i64 (x + 1), .slice Ap np cp, .bool false, .string ⟨#[]⟩] (wr.drew.alloc (.cells #[.int .i64 ((t : Int) + 1), .int .i64 1, .int .i64 y] 69)) := (show Bn xb 59 _ wr.drew from hst2.out.2.2.1).same (((Below.refl _ wr.drew).alloc (Nat.le_refl _) _).block xb hxs)
                    have hne : some xb ≠ (Value.slice Ap np cp).ownBlock := fun e => by have := (hOA.lt xb e.symm).1; omega
                    have hbA : Below xb wa (wr.drew.alloc (.cells #[.int .i64 ((t : Int) + 1), .int .i64 1, .int .i64 y] 69)) := hst2.out.2.2.2.2.drew.alloc (by show xb ≤ wr.heap.size; omega) _
                    have HOA := Lib.hid (And.intro hOA (And.intro hBA hbA))
                    clear hOA hBA hbA
                    go_wp2_with fail
                    go_region_law (first
                      | (refine step_append_lies _ (by rfl) _ _ _ (by rfl) (xb + 1) 69 i0 _ 3 24 Try.underlying57 hi0 hz0 hz1 hz2 (by rfl) (by omega) (.slice Ap np cp) np (sps p) (by rfl) HOA.out.1 ⟨wr.heap.size, 0, none⟩ 1 1 [.int .i64 ((t : Int) + 1), .int .i64 1, .int .i64 y] (by rfl) (by rfl) (World.news_of_block (heap_alloc_new wr.drew _)) (by simp [Value.oneCell']) (by omega) (by unfold maxLen; omega) (by omega) (Nat.le_trans hxs (by simp)) (wr.heap.size + 1) (by simp) ?_; intro g7 cap7 w7 o7 gr7 at7 hl7; have L7 := HOA.out.2.1.kept gr7 hne; have r5 := (L7.cell 2).trans rfl; have r6 := L7.frozen 2))
                    all_goals
                      have L8 := L7.set 2 (.slice (some ⟨g7, 0, none⟩) (np + 1) cap7)
                      simp only [List.set_cons_zero, List.set_cons_succ] at L8
                      have hgs := gset w7 xb 2 (.slice (some ⟨g7, 0, none⟩) (np + 1) cap7)
                      have o8 : (w7.setCell ⟨xb, 2, none⟩ (.slice (some ⟨g7, 0, none⟩) (np + 1) cap7)).ownsRow (xb + 1) 69 3 (.slice (some ⟨g7, 0, none⟩) (np + 1) cap7) (np + 1) (sps (p ++ [((t : Int) + 1, 1, y)])) := by
                        rw [sps_append, sps_one]
                        exact own_keep o7 fun g hg => hgs.block g (o7.lt g hg).2 fun e => by
                          have := (o7.lt g hg).1
                          injection e with e
                          omega
                      have hb8 : Below xb wa (w7.setCell ⟨xb, 2, none⟩ (.slice (some ⟨g7, 0, none⟩) (np + 1) cap7)) := (HOA.out.2.2.grown gr7 (Nat.le_trans (Nat.le_of_succ_le hxs) (by simp)) (fun g hg => by have := (HOA.out.1.lt g hg).1; omega)).setCell (Nat.le_refl _) _
                      have HN := Lib.hid (And.intro HPN.out.1 (And.intro HPN.out.2.1 (And.intro L8 (And.intro o8 hb8))))
                      have hpl2 := HPN.out.2.2
                      clear L8 L7 o7 o8 hb8 hgs gr7 at7 hl7 r5 r6 HOA HPN hst2
                      go_wp2_with fail
                      go_roundw
                      case rel => exact ⟨t + 1 + 1, np + 1, cap7, some ⟨g7, 0, none⟩, p ++ [((t : Int) + 1, 1, y)], rfl, by omega, by omega, by omega, hpl2, HN⟩
                      case measure => simp only [intOf]; omega
                  · have HN : Hid (pst (vec h) p ∧ (∀ x ∈ p, x.1 < ((t + 1 + 1 : Nat) : Int)) ∧ Bn xb 59 [.int .i64 (1 + (r : Int)), .int .i64 (x + 1), .slice Ap np cp, .bool false, .string ⟨#[]⟩] wr ∧ wr.ownsRow (xb + 1) 69 3 (.slice Ap np cp) np (sps p) ∧ Below xb wa wr) := Lib.hid ⟨hst2.out.1, fun x hx => by have := hst2.out.2.1 x hx; omega, hst2.out.2.2⟩
                    clear hst2
                    go_wp2_with fail
                    go_roundw
                    case rel => exact ⟨t + 1 + 1, np, cp, Ap, p, rfl, by omega, by omega, hnp, hpl, HN⟩
                    case measure => simp only [intOf]; omega
              · have g2 : ¬ (k : Int) < (nb0 : Int) := by omega
                go_wp2_with fail
                go_meet
                exact ⟨j, np, cp, Ap, p, rfl, hnp, hpl, hst2⟩
            · have g1 : ¬ (j : Int) ≤ 3 := by omega
              go_wp2_with fail
              go_meet
              exact ⟨j, np, cp, Ap, p, rfl, hnp, hpl, hst2⟩
        case rest =>
          obtain ⟨j, np, cp, Ap, p, rfl, hnp, hpl, hst2⟩ := hcut
          have hxw := HBL.out.1
          have hVx := HBL.out.2
          have hb12 := hst2.out.2.2.2.2
          have BV := hst.out.2.2.1.same (hb12.block VB (by omega))
          have y1 : wc.cell? ⟨VB, r, none⟩ = some (.int .i64 x) := by
            rw [BV.cell r, nums, List.getElem?_map, List.getElem?_eq_getElem (by rw [vec_len]; exact hr3), ← HX.out.1, List.getD_eq_getElem?_getD, List.getElem?_eq_getElem (by rw [vec_len]; exact hr3)]
            rfl
          have y1f := BV.frozen r
          have hgs := gset wc VB r (.int .i64 (x + 1))
          have BV9 := BV.set r (.int .i64 (x + 1))
          have BX9 := hst2.out.2.2.1.same (hgs.block xb hst2.out.2.2.1.lt (by intro e; injection e with e; omega))
          have ho9 := own_keep hst2.out.2.2.2.1 fun g hg => hgs.block g (hst2.out.2.2.2.1.lt g hg).2 fun e => by
            have := (hst2.out.2.2.2.1.lt g hg).1
            injection e with e
            omega
          have hb9 : Below w.heap.size w (wc.setCell ⟨VB, r, none⟩ (.int .i64 (x + 1))) := (hst.out.2.2.2.1.trans (hb12.mono (by rw [hxw]; exact hst.out.2.2.2.1.size))).setCell hwVB _
          have hk9 : ∀ q, VB + 1 ≤ q → q < xb → (wc.setCell ⟨VB, r, none⟩ (.int .i64 (x + 1))).heap[q]? = wa.heap[q]? := fun q h1 h2 => (hgs.block q (Nat.lt_of_lt_of_le h2 (Nat.le_trans (by omega) hb12.size)) (by intro e; injection e with e; omega)).trans (hb12.block q h2)
          have hs9 : xb < (wc.setCell ⟨VB, r, none⟩ (.int .i64 (x + 1))).heap.size := BX9.lt
          obtain ⟨W9, hW9⟩ : ∃ W, wc.setCell ⟨VB, r, none⟩ (.int .i64 (x + 1)) = W := ⟨_, rfl⟩
          rw [hW9] at BV9 BX9 ho9 hb9 hk9 hs9
          have HW9 := Lib.hid hW9
          clear hW9 hgs hb12 BV hxw hVx
          go_upto_region 16 with fail
          rw [HW9.out]
          clear y1 y1f
          have hxw := HBL.out.1
          have hVx := HBL.out.2
          have x0 := (BX9.cell 0).trans rfl
          have x1 := (BX9.cell 1).trans rfl
          have x2 := (BX9.cell 2).trans rfl
          have x3 := (BX9.cell 3).trans rfl
          have x4 := (BX9.cell 4).trans rfl
          obtain ⟨vb, hvb⟩ : ∃ k, W9.heap.size = k := ⟨_, rfl⟩
          obtain ⟨W10, hW10⟩ : ∃ W, W9.alloc (.cells #[.int .i64 (1 + (r : Int)), .int .i64 (x + 1), .slice Ap np cp, .bool false, .string ⟨#[]⟩] 59) = W := ⟨_, rfl⟩
          have b10 : Below W9.heap.size W9 W10 := by rw [← hW10]; exact (Below.refl _ W9).alloc (Nat.le_refl _) _
          have B10 : Bn W9.heap.size 59 [.int .i64 (1 + (r : Int)), .int .i64 (x + 1), .slice Ap np cp, .bool false, .string ⟨#[]⟩] W10 := by rw [← hW10]; exact heap_alloc_new W9 _
          rw [hvb] at b10 B10
          obtain ⟨l, hl1, hl2, hl3, hl4⟩ := hst.out.2.1
          have hkk : ∀ q, VB + 1 ≤ q → q < wa.heap.size → W10.heap[q]? = wa.heap[q]? := fun q h1 h2 => (b10.block q (by omega)).trans (hk9 q h1 (by omega))
          have hs10 := b10.size
          have hwa10 : wa.heap.size ≤ W10.heap.size := by omega
          have hoL := own_keep hl2 fun g hg => hkk g (hl2.lt g hg).1 (hl2.lt g hg).2
          have ho10 := own_below ho9 (by rw [hvb]; exact b10) (Nat.le_refl _)
          have hcp : np ≤ cp := by
            rcases ho10.2 with ⟨_, h0⟩ | ⟨g, cap, cur, hv, _, _, hn, _⟩
            · omega
            · injection hv with _ _ e
              omega
          have hHd : Hd W10 xb W10.heap.size (wrt k (1 + (r : Int)) (x + 1) p, (some ⟨vb, 0, none⟩, 1), (none, 0)) := by
            refine ⟨fun _ => ⟨vb, 0, rfl, by omega, B10.lt, fun j hj => ?_⟩, Ns.nil _, fun h => absurd h (by simp [wrt]), Nat.le_refl _⟩
            obtain rfl : j = 0 := by simpa [wrt] using hj
            refine ⟨Ap, cp, (B10.cell 0).trans rfl, (B10.cell 1).trans rfl, ?_, (B10.cell 3).trans rfl, (B10.cell 4).trans rfl, ?_⟩
            · show W10.cell? ⟨vb, 2, none⟩ = some (.slice Ap p.length cp)
              rw [hpl]
              exact (B10.cell 2).trans rfl
            · refine ⟨?_, ?_, ?_, ?_, fun h a ha => ?_⟩
              · show Ss W10 W10.heap.size Ap p
                exact own_ss (by rw [hpl]; exact ho10)
              · show p.length ≤ cp
                omega
              · show p.length ≤ 140737488355328
                omega
              · show (0 : Nat) ≤ 140737488355328
                omega
              · have hp0 : 0 < np := by rw [← hpl]; exact h
                obtain ⟨g, cap, e, hg, _⟩ := ho10.form hp0
                injection e with e _ _
                rw [e] at ha
                injection ha with ha
                rw [← ha]
                show xb ≤ g
                omega
          have hSz : SzF (wrt k (1 + (r : Int)) (x + 1) p) := ⟨by show (1 : Nat) ≤ _; omega, by show (1 : Nat) ≤ _; omega, by show (0 : Nat) ≤ _; omega⟩
          have HR := Lib.hid (And.intro hl1 (And.intro hl2 (And.intro hl3 (And.intro hl4 (And.intro hkk (And.intro hwa10 (And.intro hHd hSz)))))))
          have HOL := Lib.hid hoL
          have HV9 := Lib.hid (And.intro (BV9.same (b10.block VB (by have := BV9.lt; omega))) (And.intro (hb9.trans (b10.mono (by rw [← hvb]; exact hb9.size))) (And.intro hpl hst2.out.1)))
          have hbs10 : VB + 1 ≤ W10.heap.size := by omega
          clear hl1 hl2 hl3 hl4 hkk hwa10 hHd hSz hoL ho10 ho9 BV9 hb9 hk9 hcp b10 B10 BX9 hpl hst2 hs10 hs9 hxw hVx
          go_wp2_with (at_builtin; refine wpList_append_f _ rfl (.tmp 98) (.tmp 104) 48 rfl (VB + 1) 35 j0 _ 80 Try.underlying48 HI.out.2.1 HI.out.2.2.1 HI.out.2.2.2.1 HI.out.2.2.2.2 rfl (.slice A k c) k l rfl HOL.out (wrt k (1 + (r : Int)) (x + 1) p, (some ⟨vb, 0, none⟩, 1), (none, 0)) 1 0 rfl rfl 1 rfl (by omega) (by omega) hbs10 ?_; intro v5 w5 o5 g5 at5; obtain ⟨A5, c5, rfl⟩ := own_form o5; obtain ⟨gg, cap5, e5, _⟩ := o5.form (by omega); injection e5 with e5 _ e6; subst e5 e6; have H5 := Lib.hid (And.intro o5 (And.intro g5 at5)); clear o5 g5 at5)
          have HN : Hid (okH ((1 + (r : Int), p) :: h) ∧ Row (VB + 1) w5 (some ⟨gg, 0, none⟩) c5 (k + 1) (lst ((1 + (r : Int), p) :: h)) ∧ Bn VB 2 (nums .i64 (vec ((1 + (r : Int), p) :: h))) w5 ∧ Below w.heap.size w w5 ∧ VB + 1 ≤ w5.heap.size) := Lib.hid (by
            have hadd := Row.add HR.out.2.1 HR.out.2.2.1 HR.out.2.2.2.1 HR.out.2.2.2.2.2.1 HR.out.2.2.2.2.1 HR.out.2.2.2.2.2.2.1 (by rw [HBL.out.1]; exact Nat.le_refl _) HBL.out.2 (Nat.le_refl _) HR.out.2.2.2.2.2.2.2 H5.out.1 H5.out.2.1 H5.out.2.2
            rw [HR.out.1] at hadd
            have er : (1 + (r : Int) - 1).toNat = r := by omega
            have g5 := H5.out.2.1
            refine ⟨⟨hst.out.1, ⟨by show (1 : Int) ≤ 1 + r; omega, by show 1 + (r : Int) ≤ 3; omega⟩, HV9.out.2.2.2⟩, ?_, ?_, HV9.out.2.1.grown g5 (by omega) (fun g hg => by have := (HOL.out.lt g hg).1; omega), Nat.le_trans hbs10 g5.size⟩
            · show Row (VB + 1) w5 (some ⟨gg, 0, none⟩) c5 (k + 1) (lst h ++ [wrt h.length (1 + (r : Int)) ((vec h).getD (1 + (r : Int) - 1).toNat 0 + 1) p])
              rw [er, HX.out.1, HX.out.2]
              exact hadd
            · show Bn VB 2 (nums .i64 ((vec h).set (1 + (r : Int) - 1).toNat ((vec h).getD (1 + (r : Int) - 1).toNat 0 + 1))) w5
              rw [er, HX.out.1, show nums .i64 ((vec h).set r (x + 1)) = (nums .i64 (vec h)).set r (.int .i64 (x + 1)) by simp [nums, List.map_set]]
              exact HV9.out.1.kept g5 fun e => by
                have := (HOL.out.lt VB e.symm).1
                omega)
          have hl5 : ((1 + (r : Int), p) :: h).length = k + 1 := by rw [List.length_cons, HX.out.2]
          clear HR HOL HV9 H5 hst
          go_roundw
          case rel => exact ⟨k + 1, c5, some ⟨gg, 0, none⟩, (1 + (r : Int), p) :: h, rfl, rfl, by omega, hl5, HN⟩
          case measure => simp only [intOf]; omega
      · obtain rfl : k = n := by omega
        clear hlt
        have hfs := hst.out.2.1.fs
        have e4 : max (k : Int) 0 = (k : Int) := by omega
        have HNW := Lib.hid (Sit.new (k : Int) hst.out.2.2.2.1)
        rw [e4] at HNW
        clear e4
        obtain ⟨S1, hS1⟩ : ∃ s, wa.heap.size = s := ⟨_, rfl⟩
        have HFS := Lib.hid (And.intro hfs (And.intro hS1 hst.out.2.2.2.1.size))
        have HH := Lib.hid (And.intro hst.out.1 (And.intro hhl hst.out.2.2.1))
        clear hfs hS1 hst
        go_wp2_with fail
        refine HNW.out.mono ?_
        rintro e w2 ⟨nb, rfl, h2⟩
        obtain ⟨W3, hW3⟩ : ∃ W, w2.alloc (.cells #[.int .i64 0, .int .i64 0, .int .i64 0] 2) = W := ⟨_, rfl⟩
        have b3 : Below w2.heap.size w2 W3 := by rw [← hW3]; exact (Below.refl _ w2).alloc (Nat.le_refl _) _
        have s3 : W3.heap.size = w2.heap.size + 1 := by rw [← hW3]; simp
        have B3 : Bn w2.heap.size 2 (nums .i64 [0, 0, 0]) W3 := by rw [← hW3]; exact heap_alloc_new w2 _
        obtain ⟨NB, hNB⟩ : ∃ r, w2.heap.size = r := ⟨_, rfl⟩
        have HST : Hid (Stt h w wa S1 NB nb k [] [0, 0, 0] W3) := Lib.hid (by
          have hb := h2.out.2
          have hsz := hb.size
          have hS := HFS.out.2.1
          have hSw := HFS.out.2.2
          refine ⟨(h2.out.1.hold b3).less fun j hj => ?_, by rw [← hNB]; exact B3, fun q hq => (b3.block q (by omega)).trans (hb.block q (by omega)), inv_start HH.out.1, by omega, by omega⟩
          rcases hj with hj | hj
          · exact .inl (by omega)
          · exact .inr (.inl (by omega)))
        have HW3 := Lib.hid (And.intro hW3 hNB)
        clear hW3 b3 B3 s3 hNB h2 HNW
        go_upto_region 19 with fail
        rw [HW3.out.1, HW3.out.2]
        clear HW3
        go_wp2_with fail
        go_loopw [15, 16, 17, 18, 19, 20] (fun q _ _ _ _ _ wr => ∃ (i : Nat) (P : List Fr) (now : List Int), q = .int .i64 i ∧ i ≤ no + k ∧ Hid (Stt h w wa S1 NB nb k P now wr) ∧ Hid ((0 < i → ∀ z ∈ P, ¬ mayF now z) ∧ ∀ j y, no + j < i → (lst h)[j]? = some y → In P now y)) (fun q _ _ _ _ _ _ => no + k - (intOf q).toNat)
        case atStart => exact ⟨0, [], [0, 0, 0], rfl, by omega, HST, Lib.hid ⟨fun h => absurd h (by omega), fun j y h => by omega⟩⟩
        case round =>
          clear HST
          obtain ⟨i, P, now, rfl, hi, hs, hin⟩ := hrel
          by_cases hlt : i < no + k
          · obtain ⟨wb, hwb⟩ : ∃ W, W = wr := ⟨_, rfl⟩
            subst hwb
            have e1 : IntKind.i64.wrap ((no : Int) + (k : Int)) = (no : Int) + (k : Int) := IntWalk.i64_in _ (by omega)
            have e2 : IntKind.i64.wrap ((i : Int) - (no : Int)) = (i : Int) - (no : Int) := IntWalk.i64_in _ (by omega)
            have d1 : (i : Int) < (no : Int) + (k : Int) := by omega
            go_upto_if 124 with fail
            go_cut [16] (fun q V => ∃ m : Int, q = .int .i64 m ∧ 0 ≤ m ∧ m ≤ k ∧ (no ≤ i → m + no = i) ∧ V = wb)
            case first =>
              by_cases hio : i < no
              · have d2 : (i : Int) - (no : Int) < 0 := by omega
                have d2' : decide ((i : Int) < (no : Int)) = true := decide_eq_true (by omega)
                have d2'' : (i : Int) < (no : Int) := by omega
                have d3 : (0 : Int) ≤ (i : Int) := by omega
                obtain ⟨bo, oo, rfl, hblo, hato⟩ := HO.out.1 (by have := HO.out.2; omega)
                have z0 := hato i (by have := HO.out.2; omega)
                obtain ⟨z, hz⟩ : ∃ z, os.getD i 0 = z := ⟨_, rfl⟩
                rw [hz] at z0
                have z1 := (hs.out.1.old.cell (p := ⟨bo, oo + i, none⟩) hblo).trans z0
                obtain ⟨u, hu⟩ : ∃ u : Nat, IntKind.u64.wrap z = (u : Int) := ⟨(IntKind.u64.wrap z).toNat, by rw [IntKind.wrap_u64]; omega⟩
                obtain ⟨r, hr⟩ : ∃ r, u % (k + 1) = r := ⟨_, rfl⟩
                have hrk : r < k + 1 := by rw [← hr]; exact Nat.mod_lt _ (by omega)
                have g0 : IntKind.i64.wrap ((k : Int) + 1) = (k : Int) + 1 := IntWalk.i64_in _ (by omega)
                have g1 : IntKind.u64.wrap ((k : Int) + 1) = (k : Int) + 1 := by rw [IntKind.wrap_u64]; omega
                have g2 : (u : Int).tmod ((k : Int) + 1) = (r : Int) := by rw [← hr]; rfl
                have g3 : IntKind.u64.wrap (r : Int) = (r : Int) := by rw [IntKind.wrap_u64]; omega
                have g4 : IntKind.i64.wrap (r : Int) = (r : Int) := IntWalk.i64_in _ (by omega)
                have g5 : ((k : Int) + 1 == 0) = false := by simp; omega
                have g6 : ¬ (k : Int) + 1 = 0 := by omega
                clear hz hato z0 hr
                go_wp2_with fail
                go_meet
                exact ⟨(r : Int), rfl, by omega, by omega, by omega, rfl⟩
              · have d2 : ¬ (i : Int) - (no : Int) < 0 := by omega
                have d2' : ¬ (i : Int) < (no : Int) := by omega
                go_wp2_with fail
                go_meet
                exact ⟨(i : Int) - (no : Int), rfl, by omega, by omega, by omega, rfl⟩
            case rest =>
              obtain ⟨m0, rfl, hm0, hmk, hmi, hw⟩ := hcut
              have hw' := hw.symm
              subst hw'
              obtain ⟨m, rfl⟩ : ∃ m : Nat, m0 = (m : Int) := ⟨m0.toNat, by omega⟩
              go_upto_if 143 with fail
              go_cut [17] (fun _ V => ∃ P2 : List Fr, Hid (Stt h w wa S1 NB nb k P2 now V) ∧ Hid ((∀ z ∈ P, z ∈ P2) ∧ ∀ y, (lst h)[m]? = some y → In P2 now y))
              case first =>
                by_cases hmlt : m < k
                · obtain ⟨x, hx⟩ : ∃ x, (lst h)[m]? = some x := ⟨(lst h)[m]'(by rw [lst_len, HH.out.2.1]; exact hmlt), by simp⟩
                  have hxm := List.mem_of_getElem? hx
                  have hsz1 : S1 ≤ wb.heap.size := Nat.le_trans hs.out.2.2.2.2.2 (Nat.le_of_lt hs.out.2.1.lt)
                  have hfb := fs_same HFS.out.1 (w' := wb) fun q hq => hs.out.2.2.1 q (by rw [← HFS.out.2.1]; exact hq)
                  obtain ⟨b, off, rfl, hbl, hat⟩ := hfb (by rw [lst_len, HH.out.2.1]; omega)
                  obtain ⟨⟨a1, c1⟩, ⟨a2, c2⟩, hcl, hvx, hrx, hsz, hcx⟩ := hat m x hx
                  rw [HFS.out.2.1] at hvx hrx
                  obtain ⟨⟨f1, f2⟩, ⟨k1, v1⟩, rr⟩ := x
                  obtain ⟨m1, hm1⟩ : ∃ r, v1.length = r := ⟨_, rfl⟩
                  obtain ⟨r1, hr1⟩ : ∃ r, rr.length = r := ⟨_, rfl⟩
                  have d1 : (0 : Int) ≤ (m : Int) := by omega
                  have d2 : (m : Int) < (k : Int) := by omega
                  obtain ⟨⟨a, P2⟩, hF⟩ : ∃ q, takeF (k : Int) P now ((f1, f2), (k1, v1), rr) = q := ⟨_, rfl⟩
                  obtain ⟨ha, hI2, hIn, hsub⟩ := InboxAll.take HH.out.1 (by rw [HH.out.2.1]; exact HN60.out) hs.out.2.2.2.1 hxm HH.out.2.1 hF
                  have q0 : wb.cell? ⟨b, off + m * 5, none⟩ = some (.int .i64 f1) := hcl 0 _ rfl
                  have q1 : wb.cell? ⟨b, off + m * 5 + 1, none⟩ = some (.int .i64 f2) := hcl 1 _ rfl
                  have q2 : wb.cell? ⟨b, off + m * 5 + 2, none⟩ = some (.string k1) := hcl 2 _ rfl
                  have q3 : wb.cell? ⟨b, off + m * 5 + 3, none⟩ = some (.slice a1 m1 c1) := by rw [← hm1]; exact hcl 3 _ rfl
                  have q4 : wb.cell? ⟨b, off + m * 5 + 4, none⟩ = some (.slice a2 r1 c2) := by rw [← hr1]; exact hcl 4 _ rfl
                  have hokP : ∀ y ∈ P, okF y := fun y hy => InboxAll.ok HH.out.1 (by rw [HH.out.2.1]; exact HN60.out) y (hs.out.2.2.2.1.2.2.1 y hy).1
                  have hPl := hs.out.2.2.2.1.len
                  rw [HH.out.2.1] at hPl
                  have HP := Lib.hid (hs.out.1.take hokP (by omega) f1 f2 k1 a1 c1 m1 v1 hm1 a2 c2 r1 rr hr1 hsz (hvx.more hsz1) (hrx.more hsz1) (some ⟨NB, 0, none⟩) 3 3 now hs.out.2.2.2.1.1.2 (by omega) hs.out.ns hF)
                  have HI2 : Hid ((∀ z ∈ P, z ∈ P2) ∧ ∀ y, (lst h)[m]? = some y → In P2 now y) := Lib.hid ⟨hsub, fun y hy => by
                    rw [hx] at hy
                    injection hy with hy
                    subst hy
                    exact hIn⟩
                  have HIV := Lib.hid hI2
                  clear hxm hfb hat hcl hvx hrx hsz hcx hm1 hr1 hF hI2 hIn hsub hokP hx
                  go_wp2_with fail
                  refine HP.out.mono ?_
                  rintro e w5 ⟨rfl, h5⟩
                  have HN : Hid (Stt h w wa S1 NB nb k P2 now w5) := Lib.hid (hs.out.step h5.out.1 h5.out.2 HIV.out)
                  clear h5 HP q0 q1 q2 q3 q4 hs HIV
                  rcases ha with rfl | rfl | rfl
                  · go_wp2_with fail
                    go_meet
                    exact ⟨P2, HN, HI2⟩
                  · go_wp2_with fail
                    go_meet
                    exact ⟨P2, HN, HI2⟩
                  · go_wp2_with fail
                    go_meet
                    exact ⟨P2, HN, HI2⟩
                · have d1 : (0 : Int) ≤ (m : Int) := by omega
                  have d2 : ¬ (m : Int) < (k : Int) := by omega
                  have HN : Hid ((∀ z ∈ P, z ∈ P) ∧ ∀ y, (lst h)[m]? = some y → In P now y) := Lib.hid ⟨fun _ h => h, fun y hy => by
                    have := (List.getElem?_eq_some_iff.1 hy).1
                    rw [lst_len, HH.out.2.1] at this
                    omega⟩
                  go_wp2_with fail
                  go_meet
                  exact ⟨P, hs, HN⟩
              case rest =>
                obtain ⟨P2, hs2, hin2⟩ := hcut
                have HIN : Hid (∀ P3 now3, (∀ y, In P2 now y → In P3 now3 y) → ∀ j y, no + j < i + 1 → (lst h)[j]? = some y → In P3 now3 y) := Lib.hid fun P3 now3 hk j y hj hy => by
                  by_cases hji : no + j < i
                  · rcases hin.out.2 j y hji hy with hc | hc
                    · exact hk y (.inl hc)
                    · exact hk y (.inr (hin2.out.1 y hc))
                  · have hmj : m = j := by have := hmi (by omega); omega
                    exact hk y (hin2.out.2 y (by rw [hmj]; exact hy))
                clear hs hin hmi hin2
                go_wp2_with fail
                go_loopg [18, 19, 20] P2.length (fun gk _ _ _ wr => ∃ (P3 : List Fr) (now3 : List Int), P3.length ≤ gk ∧ Hid (Stt h w wa S1 NB nb k P3 now3 wr) ∧ Hid (∀ y, In P2 now y → In P3 now3 y))
                case atStart => exact ⟨P2, now, Nat.le_refl _, hs2, Lib.hid fun _ h => h⟩
                case round =>
                  clear hs2
                  obtain ⟨P3, now3, hg3, hs3, hin3⟩ := hrel
                  have hok3 : ∀ y ∈ P3, okF y := fun y hy => InboxAll.ok HH.out.1 (by rw [HH.out.2.1]; exact HN60.out) y (hs3.out.2.2.2.1.2.2.1 y hy).1
                  have hPl3 := hs3.out.2.2.2.1.len
                  rw [HH.out.2.1] at hPl3
                  rcases ready_is (fun x => decide (mayF now3 x)) P3 with ⟨hF, hno⟩ | ⟨i3, x, hix, hpx, _, hF⟩
                  · have HP := Lib.hid (hs3.out.1.ready0 hok3 (by omega) (some ⟨NB, 0, none⟩) 3 3 now3 hs3.out.2.2.2.1.1.2 (by omega) hs3.out.ns hF)
                    have HN : Hid ((0 < i + 1 → ∀ z ∈ P3, ¬ mayF now3 z) ∧ ∀ j y, no + j < i + 1 → (lst h)[j]? = some y → In P3 now3 y) := Lib.hid ⟨fun _ z hz => of_decide_eq_false (hno z hz), HIN.out P3 now3 hin3.out⟩
                    clear hF hno hok3 hPl3 hg3 hin3 HIN
                    go_wp2_with fail
                    refine HP.out.mono ?_
                    rintro e w6 ⟨rfl, h6⟩
                    obtain ⟨W7, hW7⟩ : ∃ W, w6.alloc (.cells #[.int .i64 0, .int .i64 0, .string ⟨#[]⟩, .slice none 0 0, .slice none 0 0] 35) = W := ⟨_, rfl⟩
                    have b7 : Below w6.heap.size w6 W7 := by rw [← hW7]; exact (Below.refl _ w6).alloc (Nat.le_refl _) _
                    have HN7 : Hid (Stt h w wa S1 NB nb k P3 now3 W7) := Lib.hid ((hs3.out.step h6.out.1 h6.out.2 hs3.out.2.2.2.1).below b7)
                    have HW7 := Lib.hid hW7
                    clear h6 hW7 b7 hs3 HP
                    go_upto_region 30 with fail
                    rw [HW7.out]
                    go_wp2_with fail
                    go_roundw
                    case rel => exact ⟨i + 1, P3, now3, rfl, by omega, HN7, HN⟩
                    case measure => simp only [intOf]; omega
                  · obtain ⟨P4, hP4⟩ : ∃ Q, P3.eraseIdx i3 = Q := ⟨_, rfl⟩
                    rw [hP4] at hF
                    have hmay : mayF now3 x := of_decide_eq_true hpx
                    obtain ⟨hs13, hI4, hIn4⟩ := InboxAll.ready HH.out.1 hs3.out.2.2.2.1 hix hmay
                    rw [hP4] at hI4 hIn4
                    have hil : i3 < P3.length := (List.getElem?_eq_some_iff.1 hix).1
                    have hPl4 : P4.length = P3.length - 1 := by rw [← hP4, List.length_eraseIdx_of_lt hil]
                    have hxo := hok3 x (List.mem_of_getElem? hix)
                    have HP := Lib.hid (hs3.out.1.ready hok3 (by omega) (some ⟨NB, 0, none⟩) 3 3 now3 hs3.out.2.2.2.1.1.2 (by omega) hs3.out.ns hF)
                    obtain ⟨hl1, hokv⟩ := ok_one (a := x.1) (key := x.2.1.1) (lv := x.2.1.2) (rt := x.2.2) hxo
                    have hPg : P4.length ≤ gk - 1 := by omega
                    have hg0 : gk - 1 < gk := by omega
                    clear hF hix hpx hP4 hil hPl4 hxo hok3 hPl3 hg3
                    go_wp2_with fail
                    refine HP.out.mono ?_
                    rintro e w6 ⟨a1, c1, a2, c2, kr, rfl, h6⟩
                    obtain ⟨⟨hs6, hk6⟩, hkr, _, _, hsz, hvx, hrx, hc1⟩ := h6.out
                    obtain ⟨⟨g1, g2⟩, ⟨kx, lx⟩, rx⟩ := x
                    simp only at hl1 hokv hkr hvx hrx
                    obtain ⟨yv, hy⟩ : ∃ y, lx.getD 0 v0 = y := ⟨_, rfl⟩
                    have hvr : vr ((g1, g2), (kx, lx), rx) = yv := hy
                    rw [hvr] at hs13 hI4 hIn4
                    obtain ⟨b2, o2, Ap, cp, rfl, _, hbB, x0, x1, _⟩ := hvx.at hl1 (Below.refl _ w6) (by omega : 0 < 1) hy
                    obtain ⟨s, vn, vp, vg, vx⟩ := yv
                    simp only at x0 x1 hs13 hI4 hIn4
                    rw [Nat.zero_mul, Nat.add_zero] at x0 x1
                    obtain ⟨t, rfl⟩ : ∃ t : Nat, s = (t : Int) + 1 := ⟨(s - 1).toNat, by omega⟩
                    rw [show ((t : Int) + 1 - 1).toNat = t by omega] at hI4 hIn4
                    have ht3 : t < 3 := by omega
                    obtain ⟨W7, hW7⟩ : ∃ W, w6.alloc (.cells #[.int .i64 g1, .int .i64 g2, .string kx, .slice (some ⟨b2, o2, none⟩) 1 c1, .slice a2 kr c2] 35) = W := ⟨_, rfl⟩
                    have b7 : Below w6.heap.size w6 W7 := by rw [← hW7]; exact (Below.refl _ w6).alloc (Nat.le_refl _) _
                    have B7 : Bn w6.heap.size 35 [.int .i64 g1, .int .i64 g2, .string kx, .slice (some ⟨b2, o2, none⟩) 1 c1, .slice a2 kr c2] W7 := by rw [← hW7]; exact heap_alloc_new w6 _
                    obtain ⟨W8, hW8⟩ : ∃ W, W7.alloc (.cells #[.int .i64 ((t : Int) + 1), .int .i64 vn] 56) = W := ⟨_, rfl⟩
                    have b8 : Below W7.heap.size W7 W8 := by rw [← hW8]; exact (Below.refl _ W7).alloc (Nat.le_refl _) _
                    have B8 : Bn W7.heap.size 56 [.int .i64 ((t : Int) + 1), .int .i64 vn] W8 := by rw [← hW8]; exact heap_alloc_new W7 _
                    have b68 : Below w6.heap.size w6 W8 := b7.trans (b8.mono b7.size)
                    obtain ⟨fb, hfb⟩ : ∃ k, w6.heap.size = k := ⟨_, rfl⟩
                    obtain ⟨db, hdb⟩ : ∃ k, W7.heap.size = k := ⟨_, rfl⟩
                    have HC7 : Hid (W7.cell? ⟨fb, 3, none⟩ = some (.slice (some ⟨b2, o2, none⟩) 1 c1) ∧ W7.cell? ⟨b2, o2, none⟩ = some (.int .i64 ((t : Int) + 1)) ∧ W7.cell? ⟨b2, o2 + 1, none⟩ = some (.int .i64 vn)) := Lib.hid ⟨by rw [← hfb]; exact (B7.cell 3).trans rfl, (b7.cell (p := ⟨b2, o2, none⟩) hbB).trans x0, (b7.cell (p := ⟨b2, o2 + 1, none⟩) hbB).trans x1⟩
                    have hBN6 : Bn NB 2 (nums .i64 now3) W8 := (hs3.out.2.1.same (hk6.2 NB (.inr rfl))).same (b68.block NB (Nat.lt_of_lt_of_le hs3.out.2.1.lt hk6.1))
                    have hst8 : Sit (fun j => j < S1 ∨ j = NB) w nb (k : Int) P4 W8 := hs6.below b68
                    have hsx : Bn NB 2 (nums .i64 now3) W8 ∧ ∀ q, q < S1 → W8.heap[q]? = wa.heap[q]? := ⟨hBN6, fun q hq => (b68.block q (Nat.lt_of_lt_of_le (Nat.lt_of_lt_of_le hq hs3.out.2.2.2.2.2) (Nat.le_trans (Nat.le_of_lt hs3.out.2.1.lt) hk6.1))).trans ((hk6.2 q (.inl hq)).trans (hs3.out.2.2.1 q hq))⟩
                    have HN : Hid (Stt h w wa S1 NB nb k P4 (now3.set t vn) (W8.setCell ⟨NB, t, none⟩ (.int .i64 vn))) := Lib.hid (stt_put' hst8 hsx.1 hsx.2 hs3.out.2.2.2.2 t vn hI4)
                    have HNI : Hid (∀ y, In P2 now y → In P4 (now3.set t vn) y) := Lib.hid fun y hy => hIn4 y (hin3.out y hy)
                    have z0 := (B8.cell 0).trans rfl
                    have z1 := (B8.cell 1).trans rfl
                    have HW := Lib.hid (And.intro hW7 (And.intro hW8 (And.intro hfb hdb)))
                    have hnt : ∃ z, W8.cell? ⟨NB, t, none⟩ = some z := ⟨.int .i64 (now3.getD t 0), by
                      rw [hBN6.cell t, nums, List.getElem?_map, List.getElem?_eq_getElem (by rw [hs3.out.2.2.2.1.1.2]; exact ht3), List.getD_eq_getElem?_getD, List.getElem?_eq_getElem (by rw [hs3.out.2.2.2.1.1.2]; exact ht3)]
                      rfl⟩
                    obtain ⟨zz, hzz⟩ := hnt
                    have hzf := hBN6.frozen t
                    rw [hdb] at z0 z1
                    have e3 : IntKind.i64.wrap (t : Int) = (t : Int) := IntWalk.i64_in _ (by omega)
                    have d5 : (0 : Int) ≤ (t : Int) := by omega
                    have d6 : (t : Int) < 3 := by omega
                    clear h6 hW7 b7 B7 hW8 b8 B8 b68 hfb hdb hbB x0 x1 hmay hokv hl1 hy hvr hvx hrx hsz hkr hs6 hk6 HP hBN6 hst8 hsx hI4 hIn4 hs13 hs3 hin3
                    obtain ⟨y3, y0, y1⟩ := HC7.out
                    go_upto_region 31 with fail
                    rw [HW.out.1, HW.out.2.2.1]
                    go_upto_region 32 with fail
                    rw [HW.out.2.1, HW.out.2.2.2]
                    clear y0 y1 y3 HC7
                    go_wp2_with fail
                    go_roundg (gk - 1)
                    case measure => exact hg0
                    case rel => exact ⟨P4, now3.set t vn, hPg, HN, HNI⟩

          · obtain rfl : i = no + k := by omega
            have e1 : IntKind.i64.wrap ((no : Int) + (k : Int)) = (no : Int) + (k : Int) := IntWalk.i64_in _ (by omega)
            have hPl := hs.out.2.2.2.1.len
            rw [HH.out.2.1] at hPl
            have hno : ∀ z ∈ P, ¬ mayF now z := fun z hz => by
              have := List.length_pos_of_mem hz
              exact hin.out.1 (by omega) z hz
            have hall : ∀ y ∈ lst h, In P now y := fun y hy => by
              obtain ⟨j, hj, e⟩ := List.mem_iff_getElem.1 hy
              have hjk : j < k := by
                have hj' := hj
                rw [lst_len, HH.out.2.1] at hj'
                exact hj'
              exact hin.out.2 j y (by omega) (by rw [← e]; exact List.getElem?_eq_getElem hj)
            obtain ⟨hnow, hP0⟩ := ends HH.out.1 (by rw [HH.out.2.1]; exact HN60.out) hs.out.2.2.2.1 hno hall
            subst hP0
            have hNS := hs.out.ns
            have hVBS : VB < S1 := by
              have := HH.out.2.2.lt
              rw [HFS.out.2.1] at this
              exact this
            have hBV := HH.out.2.2.same (hs.out.2.2.1 VB hVBS)
            have hNV : Ns .i64 wr wr.heap.size (some ⟨VB, 0, none⟩) (vec h) := fun _ => ⟨VB, 0, rfl, hBV.lt, fun j hj => by rw [Nat.zero_add, hBV.cell j, nums, List.getElem?_map, List.getElem?_eq_getElem hj, List.getD_eq_getElem?_getD, List.getElem?_eq_getElem hj]; rfl⟩
            have HSA := Lib.hid (Code.svec_any (some ⟨NB, 0, none⟩) (some ⟨VB, 0, none⟩) 3 3 3 3 now (vec h) hs.out.2.2.2.1.1.2 (vec_len h) wr hNS hNV (by omega) (by omega))
            rw [hnow, decide_eq_true rfl] at HSA
            have HSI := Lib.hid hs.out.1
            clear hPl hno hall hnow hNS hVBS hBV hNV hs hin hlt
            go_wp2_with fail
            refine HSA.out.mono ?_
            rintro e w5 ⟨rfl, b5⟩
            have hS5 := HSI.out.below b5
            have HWA := Lib.hid (hS5.waits (by simp) (by simp) 0 rfl)
            clear b5 hS5 HSA
            go_wp2_with fail
            refine HWA.out.mono ?_
            rintro e w6 ⟨A6, c6, rfl, h6⟩
            have HE := Lib.hid h6.out.2.2.old
            clear h6 HWA
            go_wp2_with fail
            go_ret
            exact ⟨rfl, HE.out⟩
  · have d0 : (60 : Int) < (n : Int) := by omega
    go_enter Try.func5, Try.ntmps5
    go_wp2_with fail
    refine (HAW.out w).mono ?_
    rintro e w1 ⟨rfl, b1⟩
    go_wp2_with fail
    refine (HAW.out w1).mono ?_
    rintro e w2 ⟨rfl, b2⟩
    have b3 := b1.trans (b2.mono b1.size)
    go_wp2_with fail
    go_ret
    exact ⟨rfl, b3⟩
-- ROW BEGIN
set_option maxRecDepth 100000 in
/-- What the walk gives, shut again. -/
theorem contract (H : Type) (enc : TypeId × Value → H) (W : World) (base : Nat) (args : Array Value) (ds gs : List (DataW H)) (before : List MemPlace)
    (hval : ∀ (j : Nat) t v, Try.f5.params[j]? = some t → args[j]? = some v → Value.okWide Try.prog W .any base t v)
    (hW : DataW.Whole enc Try.prog Try.f5.params.toList Rows.inboxAllSpec.vars false W args.toList ds gs before)
    (hsz : (DataW.weightsEach Try.prog (Try.f5.params.toList ++ Rows.inboxAllSpec.plain.varTypes Try.prog) (ds ++ gs)).all (· ≤ reachBytes) = true) :
    Calls Try.prog 5 args W fun e W' => ∃ v, e = .returned v ∧ Rows.inboxAllSpec.post enc Try.prog Try.f5 false true false false W args v W' := by
  have hW' := hW
  obtain ⟨p, q, hA0, hV, hbef, _, _⟩ := hW
  have hA : DataW.TrodAll enc Try.prog W 0 (fun _ => true) true Try.f5.params.toList args.toList ds p := hA0
  have hA1 := hA
  rw [Try.params5] at hA hval hsz
  obtain ⟨v0, vs0, d0, ds0, p0, q0, hargs, rfl, rfl, h0, r0⟩ := trodAll_cons hA
  obtain ⟨v1, vs1, d1, ds1, p1, q1, rfl, rfl, rfl, h1, r1⟩ := trodAll_cons r0
  obtain ⟨v2, vs2, d2, ds2, p2, q2, rfl, rfl, rfl, h2, r2⟩ := trodAll_cons r1
  obtain ⟨rfl, rfl, rfl⟩ := trodAll_nil r2
  obtain rfl : args = #[v0, v1, v2] := by cases args; simp_all
  obtain ⟨rfl, rfl⟩ := trodVars_none hV
  clear hA hargs
  obtain ⟨A0, c0, a0, rfl, n0, w0, l0, _, o0⟩ := open_ns Try.underlying53 Try.underlying5 Facts.cells5 (hval 0 53 v0 rfl rfl) h0
  have b0 := reach_ns hsz (j := 0) rfl rfl Try.underlying53 Facts.bytes5 l0 o0
  obtain ⟨A1, c1, a1, rfl, n1, w1, l1, _, o1⟩ := open_ns Try.underlying53 Try.underlying5 Facts.cells5 (hval 1 53 v1 rfl rfl) h1
  have b1 := reach_ns hsz (j := 1) rfl rfl Try.underlying53 Facts.bytes5 l1 o1
  obtain ⟨A2, c2, a2, rfl, n2, w2, l2, _, o2⟩ := open_ns Try.underlying33 Try.underlying3 Facts.cells3 (hval 2 33 v2 rfl rfl) h2
  have b2 := reach_ns hsz (j := 2) rfl rfl Try.underlying33 Facts.bytes3 l2 o2
  refine (walk W A0 c0 a0 n0 (fun z hz => wf_byte (w0 z hz)) (by omega) l0 A1 c1 a1 n1 (fun z hz => wf_byte (w1 z hz)) (by omega) l1 A2 c2 a2 n2 (fun z hz => wf_int (w2 z hz)) (by omega) l2).mono fun e W' ⟨he, hb⟩ => ?_
  subst he
  exact ⟨_, rfl, law_post Facts.laid (by rfl) Try.underlying4 (by rw [Try.params5]; decide +kernel) hW' hA1 rfl hbef rfl rfl rfl hb⟩

set_option maxRecDepth 100000 in
theorem lifted (os : Os) (started : os.Started) (H : Type) (enc : TypeId × Value → H) :
    ReturnsInHanded {} Try.checked os 5 .any (Rows.inboxAllSpec.pre6 enc Try.prog Try.f5 Rows.inboxAllRow.domain false) (Rows.inboxAllSpec.post enc Try.prog Try.f5 false true false false) := by
  refine returnsInHanded_of_change_sized (C := Try.checked) Facts.own started (by kernel_rfl) Try.func5
    (ChangeSpec.witness6 (enc := enc) (C := Try.checked) false ⟨#[], #[.slice none 0 0, .slice none 0 0, .slice none 0 0], []⟩ 8 (by kernel_rfl) (by kernel_rfl) (by kernel_rfl) (by kernel_rfl)) ?_
  intro W base args ds gs before hval hW _ hsz _
  exact contract H enc W base args ds gs before hval hW hsz

theorem holds : Rows.InboxAllSaid :=
  OpenClaim.holds_of_wide 5 Try.f5 rfl rfl rfl rfl rfl rfl rfl ⟨rfl, rfl, rfl, rfl, rfl⟩ rfl rfl rfl rfl rfl (by kernel_rfl) Try.func5 (by kernel_rfl)
    (of_decide_eq_true (by kernel_rfl)) (by unfold Func.isWrapper; first | (rw [if_pos (by decide +kernel)]; kernel_rfl) | (rw [if_neg (by decide +kernel)]; exact ⟨rfl, rfl⟩))
    (fun os started H enc _ => lifted os started H enc)
-- ROW END
end InboxAll
end Go.Proofs.Ytiempgabamheiaa
