/-
  The document's lists of hashes; records, whatever the path.
-/
import Derived.Test.YtbaclinjimfncaaGreatTreeDocHash
namespace Go.Proofs.YtbaclinjimfncaaGreat
namespace Tree
open Go.RowKit Vers Num Ring Disk Blk
open Go.Proofs.YtbaclinjimfncaaGreat.Code hiding Bn
attribute [local go_sem ↓] Go.wp_at_zero Go.wp_at_succ

theorem ref_recs_tell (A A' : Option Addr) (c c' n m : Nat) (all : List Rc) (p : List Int) (hm : all.length = m) (hm2 : m ≤ 3518437208882) (hn : p.length = n) (hbig : n ≤ 140737488355328) (w : World) (hv : Rs w 0 w.heap.size A all) (hr : Ns .i64 w w.heap.size A' p) :
    Calls Tryz.prog 18 #[.slice A m c, .slice A' n c'] w (NewS (recsF all p) w) := by
  by_cases hp : okP p
  · exact ref_recs_any A A' c c' n m all p hm hm2 hn hbig w hv hr hp
  · exact ref_recs_no A A' c c' n m all p hm hm2 hn hbig w hr hp
theorem info_u64' : (Tryz.prog.info? 28).map (fun i => (i.zero, i.size, i.bytes)) = some (some (.int .u64 0), 1, 8) := by kernel_rfl
/-- Hashes are told, in a row of the call's own. -/
def NewH (zs : List Int) (w : World) (e : Ending) (w' : World) : Prop := ∃ A m c, e = .returned (.slice A m c) ∧ Hid (zs.length = m ∧ m ≤ c ∧ w'.ownsRow w.heap.size 28 1 (.slice A m c) m (nums .u64 zs)) ∧ Below w.heap.size w w'
set_option maxRecDepth 100000 in
set_option maxHeartbeats 2000000 in
theorem ref_kids_tell (w : World) (A : Option Addr) (c m : Nat) (all : List Rc) (hm : all.length = m) (hm2 : m ≤ 3518437208882) (hok : ∀ r ∈ all, okR r) (hv : Rs w 0 w.heap.size A all) (A' : Option Addr) (c' n : Nat) (p : List Int) (hn : p.length = n) (hbig : n ≤ 140737488355328) (hr : Ns .i64 w w.heap.size A' p) :
    Calls Tryz.prog 15 #[.slice A m c, .slice A' n c'] w (NewH (kidsF all p) w) := by
  obtain ⟨i0, hi, hz0, hz1, hz2⟩ := info_parts info_u64'
  have HPa : Hid (∀ W, Below w.heap.size w W → Calls Tryz.prog 32 #[.slice A' n c'] W (fun e w' => e = .returned (.bool (decide (okP p))) ∧ W = w')) := Lib.hid fun W hW => path_any A' c' n p hn hbig W ((hr.below hW).more hW.size)
  by_cases hp : okP p ∧ p.length < 2
  · have hn2 : (n : Int) < 2 := by omega
    have e2 : n < 2 := by omega
    have hkf : kidsF all p = (List.range 16).map fun (d : Nat) => hashF all (p ++ [(d : Int)]) := by unfold kidsF; rw [if_pos hp]
    obtain ⟨h', hh'⟩ : ∃ h' : Nat → Int, (fun (d : Nat) => hashF all (p ++ [(d : Int)])) = h' := ⟨_, rfl⟩
    rw [hkf, hh', ← kr_full h']
    rw [decide_eq_true hp.1] at HPa
    have HL := Lib.hid (fun (W : World) (d : Nat) (hW : Ns .i64 W W.heap.size A' p) => ref_longer_any A' c' n p hn (by omega) (d : Int) W hW)
    have HH : Hid (∀ (W : World) (A3 : Option Addr) (c3 d : Nat), Below w.heap.size w W → Ns .i64 W W.heap.size A3 (p ++ [(d : Int)]) → Calls Tryz.prog 12 #[.slice A m c, .slice A3 (n + 1) c3] W (fun e w' => e = .returned (.int .u64 (h' d)) ∧ Below W.heap.size W w')) := Lib.hid fun W A3 c3 d hW hns => by
      rw [← congrFun hh' d]
      exact ref_hash_tell W A c m all hm hm2 hok ((hv.below hW).more hW.size) A3 c3 (n + 1) (p ++ [(d : Int)]) (by simp [hn]) (by omega) hns
    have HN := Lib.hid (And.intro hr hn)
    have hzz : ∀ k, k ≤ 16 → ((List.range k).map h').length = k := fun k _ => by simp
    have HZZ := Lib.hid hzz
    clear hkf hh' hr hn hp hv hok hm hzz
    go_enter Tryz.func15, Tryz.ntmps15
    go_wp2_with fail
    go_loopw [5, 6] (fun v q wr => ∃ (k : Nat) (A1 : Option Addr) (c1 : Nat), q = .int .i64 k ∧ k ≤ 16 ∧ v = .slice A1 k c1 ∧ Hid (wr.ownsRow w.heap.size 28 1 (.slice A1 k c1) k (nums .u64 ((List.range k).map h')) ∧ Below w.heap.size w wr)) (fun _ q _ => 16 - (intOf q).toNat)
    case atStart => exact ⟨0, none, 0, rfl, by omega, rfl, Lib.hid ⟨World.ownsRow_nil _ _ _ _, Below.refl _ _⟩⟩
    case round =>
      obtain ⟨k, A1, c1, rfl, hk, rfl, hst⟩ := hrel
      have hb := hst.out.2
      have hP := Lib.hid (HPa.out wr hb)
      have hsz := hb.size
      have HST := Lib.hid hst.out
      by_cases hlt : k < 16
      · have d1 : (0 : Int) ≤ (k : Int) := by omega
        have d2 : (k : Int) < 16 := by omega
        have hK := Lib.hid (HL.out wr k ((HN.out.1.below hb).more hb.size))
        clear hst hb
        go_wp2_with fail
        refine hP.out.mono ?_
        rintro e w1 ⟨rfl, rfl⟩
        go_wp2_with fail
        refine hK.out.mono ?_
        rintro e w3 ⟨A4, c4, rfl, o4, b4⟩
        have s4 := b4.size
        have hns : Ns .i64 w3 w3.heap.size A4 (p ++ [(k : Int)]) := by
          have h := o4.out
          rw [show n + 1 = (p ++ [(k : Int)]).length by simp [HN.out.2]] at h
          exact own_ns h
        have hbb := HST.out.2.trans (b4.mono hsz)
        have hH := Lib.hid (HH.out w3 A4 c4 k hbb hns)
        have HO4 := Lib.hid (And.intro (own_below HST.out.1 b4 (Nat.le_refl _)) (And.intro hbb b4))
        clear o4 b4 hns hbb hK hP
        go_wp2_with fail
        refine hH.out.mono ?_
        rintro e w5 ⟨rfl, b5⟩
        have o5 := own_below HO4.out.1 b5 (Nat.le_refl _)
        have s5 := b5.size
        have hs5 : w.heap.size ≤ w5.heap.size := by omega
        have HB5 := Lib.hid (HO4.out.2.1.trans (b5.mono (by omega)))
        obtain ⟨x, hx⟩ : ∃ x, h' k = x := ⟨_, rfl⟩
        rw [hx]
        have HX := Lib.hid hx
        clear b5 hx hH
        go_wp2_with (at_builtin; refine wpList_append_one _ rfl (.tmp 20) (.tmp 26) 32 rfl w.heap.size 28 i0 _ 8 Tryz.underlying32 hi hz0 hz1 hz2 rfl _ k (nums .u64 ((List.range k).map h')) rfl o5 (.int .u64 x) 1 rfl rfl (by omega) (by omega) hs5 ?_; intro v2 w6 o6 g6 at6; obtain ⟨A2, c2, rfl⟩ := own_form o6)
        have HF : Hid (w6.ownsRow w.heap.size 28 1 (.slice A2 (k + 1) c2) (k + 1) (nums .u64 ((List.range (k + 1)).map h')) ∧ Below w.heap.size w w6) := Lib.hid ⟨by
          rw [List.range_succ, List.map_append, show nums .u64 ((List.range k).map h' ++ [k].map h') = nums .u64 ((List.range k).map h') ++ [.int .u64 x] by simp [nums, HX.out]]
          exact o6, HB5.out.grown g6 hs5 (fun j hj => (o5.lt j hj).1)⟩
        clear o6 g6 at6 o5
        go_roundw
        case rel => exact ⟨k + 1, A2, c2, by go_num, by omega, rfl, HF⟩
        case measure => simp only [intOf]; omega
      · have hk16 : k = 16 := by omega
        subst hk16
        have HF : Hid (NewH (kr h' 16) w (.returned (.slice A1 16 c1)) wr) := Lib.hid ⟨A1, 16, c1, rfl, Lib.hid ⟨by rw [kr_full]; simp, (own_low HST.out.1).1, by rw [kr_full]; exact HST.out.1⟩, HST.out.2⟩
        clear hst hb hP
        go_wp2_with fail
        go_ret
        exact HF.out
  · have hkf : kidsF all p = [] := by unfold kidsF; rw [if_neg hp]
    rw [hkf]
    have HF : Hid (NewH [] w (.returned (.slice none 0 0)) w) := Lib.hid ⟨none, 0, 0, rfl, Lib.hid ⟨rfl, Nat.le_refl _, World.ownsRow_nil _ _ _ _⟩, Below.refl _ _⟩
    have hPP := HPa.out w (Below.refl _ _)
    by_cases hq : okP p
    · rw [decide_eq_true hq] at hPP
      have HPP := Lib.hid hPP
      have e2 : ¬ (n : Int) < 2 := fun h => hp ⟨hq, by omega⟩
      have e3 : ¬ n < 2 := by omega
      clear hPP hq hp hkf hn hr hv hok hm
      go_enter Tryz.func15, Tryz.ntmps15
      go_wp2_with fail
      refine wp_loop_rounds 1 ?_
      rw [rounds_succ]
      go_wp2_with fail
      refine HPP.out.mono ?_
      rintro e w1 ⟨rfl, rfl⟩
      go_wp2_with fail
      go_ret
      exact HF.out
    · rw [decide_eq_false hq] at hPP
      have HPP := Lib.hid hPP
      clear hPP hq hp hkf hn hr hv hok hm
      go_enter Tryz.func15, Tryz.ntmps15
      go_wp2_with fail
      refine wp_loop_rounds 1 ?_
      rw [rounds_succ]
      go_wp2_with fail
      refine HPP.out.mono ?_
      rintro e w1 ⟨rfl, rfl⟩
      go_wp2_with fail
      go_ret
      exact HF.out
end Tree
end Go.Proofs.YtbaclinjimfncaaGreat
