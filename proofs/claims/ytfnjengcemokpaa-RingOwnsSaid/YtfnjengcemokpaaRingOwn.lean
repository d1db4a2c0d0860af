/-
  The partitions that a node keeps, of both.
-/
import Derived.Test.YtfnjengcemokpaaRingInts
namespace Go.Proofs.Ytfnjengcemokpaa
namespace Ring
open Go.RowKit
attribute [local go_sem ↓] Go.wp_at_zero Go.wp_at_succ

/-- The partitions below k that a node keeps, rising. -/
noncomputable def ownsTo (ms : List Int) (node x : Int) : Nat → List Int
  | 0 => []
  | k + 1 => if node ∈ listF ms (k : Int) x then ownsTo ms node x k ++ [(k : Int)] else ownsTo ms node x k
theorem owns_len (ms : List Int) (node x : Int) (k : Nat) : (ownsTo ms node x k).length ≤ k := by
  induction k with
  | zero => exact Nat.le_refl 0
  | succ k ih =>
    unfold ownsTo
    split
    · rw [List.length_append]; simp; exact ih
    · omega
def Owning (ms : List Int) (node x : Int) (base : Nat) (W : World) (k : Nat) (pv : Value) (wr : World) : Prop :=
  ∃ (m : Nat) (Al : Option Addr) (cl : Nat), pv = .slice Al m cl ∧ m ≤ k ∧ Hid ((ownsTo ms node x k).length = m ∧ wr.ownsRow base 3 1 (.slice Al m cl) m (nums .i64 (ownsTo ms node x k))) ∧ Hid (Below base W wr)
theorem owning_start (ms : List Int) (node x : Int) (w : World) : Owning ms node x w.heap.size w 0 (.slice none 0 0) w :=
  ⟨0, none, 0, rfl, Nat.le_refl _, Lib.hid ⟨rfl, World.ownsRow_nil _ _ _ _⟩, Lib.hid (Below.refl _ _)⟩
theorem owning_skip {ms : List Int} {node x : Int} {base : Nat} {W wr V : World} {k m : Nat} {Al : Option Addr} {cl : Nat} (h : Hid ((ownsTo ms node x k).length = m ∧ wr.ownsRow base 3 1 (.slice Al m cl) m (nums .i64 (ownsTo ms node x k)))) (hm : m ≤ k) (hb : Hid (Below base W wr)) (hw : base ≤ wr.heap.size) (hV : Below wr.heap.size wr V) (hn : ¬ node ∈ listF ms (k : Int) x) : Owning ms node x base W (k + 1) (.slice Al m cl) V := by
  have e : ownsTo ms node x (k + 1) = ownsTo ms node x k := by
    rw [ownsTo, if_neg hn]
  refine ⟨m, Al, cl, rfl, by omega, Lib.hid ⟨by rw [e]; exact h.out.1, by rw [e]; exact own_below h.out.2 hV (Nat.le_refl _)⟩, Lib.hid (hb.out.trans (hV.mono hw))⟩
theorem owning_add {ms : List Int} {node x : Int} {base : Nat} {W V w6 : World} {k m : Nat} {Al : Option Addr} {cl : Nat} {v3 : Value} (h : Hid ((ownsTo ms node x k).length = m ∧ V.ownsRow base 3 1 (.slice Al m cl) m (nums .i64 (ownsTo ms node x k)) ∧ Below base W V)) (hm : m ≤ k) (hw : base ≤ V.heap.size) (hn : node ∈ listF ms (k : Int) x)
    (o : w6.ownsRow base 3 1 v3 (m + 1) (nums .i64 (ownsTo ms node x k) ++ [.int .i64 (k : Int)])) (g : V.grownBy w6 (Value.slice Al m cl).ownBlock) : Owning ms node x base W (k + 1) v3 w6 := by
  obtain ⟨A6, c6, rfl⟩ := own_form o
  have e : ownsTo ms node x (k + 1) = ownsTo ms node x k ++ [(k : Int)] := by
    rw [ownsTo, if_pos hn]
  refine ⟨m + 1, A6, c6, rfl, by omega, Lib.hid ⟨by rw [e, List.length_append, h.out.1]; rfl, ?_⟩, Lib.hid (h.out.2.2.grown g hw fun r hr => (h.out.2.1.lt r hr).1)⟩
  rw [e]
  unfold nums at o ⊢
  rw [List.map_append]
  exact o
theorem owning_end {ms : List Int} {node x : Int} {w wr : World} {pv : Value} (h : Owning ms node x w.heap.size w 8 pv wr) (j : Nat) : MadeNs 3 .i64 (ownsTo ms node x 8) w (.returned pv) (wr.drewN j) := by
  obtain ⟨m, Al, cl, rfl, hm, h1, h2⟩ := h
  obtain ⟨h3, h4⟩ := h1.out
  subst h3
  exact ⟨Al, cl, rfl, own_below h4 (below_drewN _ _ _) (Nat.le_refl _), h2.out.trans (below_drewN _ _ _)⟩

set_option maxRecDepth 100000 in
set_option maxHeartbeats 1000000 in
theorem owns_any (A : Option Addr) (c n : Nat) (ms : List Int) (hn : ms.length = n) (node x : Int) (w : World) (hr : Ns .i64 w w.heap.size A ms) (hbig : n ≤ 140737488355328) :
    Calls Try.prog 19 #[.slice A n c, .int .i64 node, .int .i64 x] w (MadeNs 3 .i64 (ownsTo ms node x 8) w) := by
  obtain ⟨base, hbase⟩ : ∃ base, w.heap.size = base := ⟨_, rfl⟩
  have HV := Lib.hid (And.intro hr (And.intro hn hbase))
  have HS := Lib.hid (owning_start ms node x w)
  have HE := Lib.hid (fun pv wr j (h : Owning ms node x w.heap.size w 8 pv wr) => owning_end h j)
  rw [hbase] at HS HE
  obtain ⟨j0, hj0, hy0, hy1, hy2⟩ := info_parts info_int
  clear hr hn hbase
  go_enter Try.func19, Try.ntmps19
  go_wp2_with fail
  go_loopw [7, 9] (fun pv iv wr => ∃ k : Nat, iv = .int .i64 k ∧ k ≤ 8 ∧ Owning ms node x base w k pv wr) (fun _ iv _ => 8 - (intOf iv).toNat)
  case atStart => exact ⟨0, rfl, by omega, HS.out⟩
  case round =>
    obtain ⟨k, rfl, hk, hrel⟩ := hrel
    by_cases hlt : k < 8
    · obtain ⟨m, Al, cl, rfl, hm, hH, hb⟩ := hrel
      have hsz : base ≤ wr.heap.size := by have h1 := hb.out.size; have h2 := HV.out.2.2; omega
      have HNS : Hid (Ns .i64 wr w.heap.size A ms ∧ base ≤ wr.heap.size) := Lib.hid ⟨HV.out.1.below (by rw [HV.out.2.2]; exact hb.out), hsz⟩
      have HL := Lib.hid (list_any A c n ms HV.out.2.1 (k : Int) x wr (HNS.out.1.more (by rw [HV.out.2.2]; exact HNS.out.2)) hbig)
      obtain ⟨kl, hkl⟩ : ∃ kl, (listF ms (k : Int) x).length = kl := ⟨_, rfl⟩
      have HKL := Lib.hid hkl
      have k0 : (0 : Int) ≤ (k : Int) := by omega
      have k1 : (k : Int) < 8 := by omega
      clear hsz hkl HS HE
      go_wp2_with fail
      refine HL.out.mono ?_
      rintro e w1 hL
      obtain ⟨A1, c1, rfl, hc1, hOK, b1⟩ := list_read HKL.out hL
      have B1 := Lib.hid b1
      have k8 : kl ≤ 8 := by
        have h1 := ord_small hOK.out.1
        have h2 := HKL.out
        rw [listF_len] at h2
        have h3 := cutF_le x (ordL ms (k : Int)).length
        omega
      have HC := Lib.hid (contains_any A1 c1 kl (listF ms (k : Int) x) HKL.out node w1 hOK.out.2 (by omega))
      clear hL b1 HL hOK
      by_cases hin : node ∈ listF ms (k : Int) x
      · rw [decide_eq_true hin] at HC
        have HIN := Lib.hid hin
        clear hin
        go_wp2_with fail
        refine HC.out.mono ?_
        rintro e w2 ⟨rfl, b2⟩
        have hX : Hid ((ownsTo ms node x k).length = m ∧ w2.ownsRow base 3 1 (.slice Al m cl) m (nums .i64 (ownsTo ms node x k)) ∧ Below base w w2) := Lib.hid ⟨hH.out.1, own_below hH.out.2 (B1.out.trans (b2.mono B1.out.size)) (Nat.le_refl _), hb.out.trans ((B1.out.trans (b2.mono B1.out.size)).mono HNS.out.2)⟩
        have HSZ : Hid (base ≤ w2.heap.size) := Lib.hid (by have h1 := HNS.out.2; have h2 := B1.out.size; have h3 := b2.size; omega)
        clear b2 HC
        go_wp2_with (at_builtin; refine wpList_append_one _ rfl _ _ 22 rfl base 3 j0 (.int .i64 0) 8 Try.underlying22 hj0 hy0 hy1 hy2 rfl (.slice Al m cl) m (nums .i64 (ownsTo ms node x k)) rfl hX.out.2.1 (.int .i64 (k : Int)) 1 (by rfl) rfl (by omega) (by omega) HSZ.out ?_; intro v3 w6 o6 g6 at6)
        exact ⟨⟨k + 1, rfl, by omega, owning_add hX hm HSZ.out HIN.out o6 g6⟩, by simp only [intOf]; omega⟩
      · rw [decide_eq_false hin] at HC
        have HIN := Lib.hid hin
        clear hin
        go_wp2_with fail
        refine HC.out.mono ?_
        rintro e w2 ⟨rfl, b2⟩
        have B2 := Lib.hid b2
        clear b2 HC
        go_wp2_with fail
        exact ⟨⟨k + 1, rfl, by omega, owning_skip hH hm hb HNS.out.2 (B1.out.trans (B2.out.mono B1.out.size)) HIN.out⟩, by simp only [intOf]; omega⟩
    · have hk8 : k = 8 := by omega
      have HF := Lib.hid (fun j => HE.out _ wr j (by rw [← hk8]; exact hrel))
      clear HE HS hrel
      go_wp2_with fail
      go_ret
      exact HF.out 0

set_option maxRecDepth 100000 in
set_option maxHeartbeats 1000000 in
theorem ref_owns_any (A : Option Addr) (c n : Nat) (ms : List Int) (hn : ms.length = n) (node x : Int) (w : World) (hr : Ns .i64 w w.heap.size A ms) (hbig : n ≤ 140737488355328) :
    Calls Try.prog 20 #[.slice A n c, .int .i64 node, .int .i64 x] w (MadeNs 3 .i64 (ownsTo ms node x 8) w) := by
  obtain ⟨base, hbase⟩ : ∃ base, w.heap.size = base := ⟨_, rfl⟩
  have HV := Lib.hid (And.intro hr (And.intro hn hbase))
  have HS := Lib.hid (owning_start ms node x w)
  have HE := Lib.hid (fun pv wr j (h : Owning ms node x w.heap.size w 8 pv wr) => owning_end h j)
  rw [hbase] at HS HE
  obtain ⟨j0, hj0, hy0, hy1, hy2⟩ := info_parts info_int
  clear hr hn hbase
  go_enter Try.func20, Try.ntmps20
  go_wp2_with fail
  go_loopw [7, 8] (fun pv iv wr => ∃ k : Nat, iv = .int .i64 k ∧ k ≤ 8 ∧ Owning ms node x base w k pv wr) (fun _ iv _ => 8 - (intOf iv).toNat)
  case atStart => exact ⟨0, rfl, by omega, HS.out⟩
  case round =>
    obtain ⟨k, rfl, hk, hrel⟩ := hrel
    by_cases hlt : k < 8
    · obtain ⟨m, Al, cl, rfl, hm, hH, hb⟩ := hrel
      have hsz : base ≤ wr.heap.size := by have h1 := hb.out.size; have h2 := HV.out.2.2; omega
      have HNS : Hid (Ns .i64 wr w.heap.size A ms ∧ base ≤ wr.heap.size) := Lib.hid ⟨HV.out.1.below (by rw [HV.out.2.2]; exact hb.out), hsz⟩
      have HL := Lib.hid (ref_list_any A c n ms HV.out.2.1 (k : Int) x wr (HNS.out.1.more (by rw [HV.out.2.2]; exact HNS.out.2)) hbig)
      obtain ⟨kl, hkl⟩ : ∃ kl, (listF ms (k : Int) x).length = kl := ⟨_, rfl⟩
      have HKL := Lib.hid hkl
      have k0 : (0 : Int) ≤ (k : Int) := by omega
      have k1 : (k : Int) < 8 := by omega
      clear hsz hkl HS HE
      go_wp2_with fail
      refine HL.out.mono ?_
      rintro e w1 hL
      obtain ⟨A1, c1, rfl, hc1, hOK, b1⟩ := list_read HKL.out hL
      have B1 := Lib.hid b1
      have k8 : kl ≤ 8 := by
        have h1 := ord_small hOK.out.1
        have h2 := HKL.out
        rw [listF_len] at h2
        have h3 := cutF_le x (ordL ms (k : Int)).length
        omega
      have HC := Lib.hid (in_any A1 c1 kl (listF ms (k : Int) x) HKL.out node w1 hOK.out.2 (by omega))
      clear hL b1 HL hOK
      by_cases hin : node ∈ listF ms (k : Int) x
      · rw [decide_eq_true hin] at HC
        have HIN := Lib.hid hin
        clear hin
        go_wp2_with fail
        refine HC.out.mono ?_
        rintro e w2 ⟨rfl, b2⟩
        have hX : Hid ((ownsTo ms node x k).length = m ∧ w2.ownsRow base 3 1 (.slice Al m cl) m (nums .i64 (ownsTo ms node x k)) ∧ Below base w w2) := Lib.hid ⟨hH.out.1, own_below hH.out.2 (B1.out.trans (b2.mono B1.out.size)) (Nat.le_refl _), hb.out.trans ((B1.out.trans (b2.mono B1.out.size)).mono HNS.out.2)⟩
        have HSZ : Hid (base ≤ w2.heap.size) := Lib.hid (by have h1 := HNS.out.2; have h2 := B1.out.size; have h3 := b2.size; omega)
        clear b2 HC
        go_wp2_with (at_builtin; refine wpList_append_one _ rfl _ _ 22 rfl base 3 j0 (.int .i64 0) 8 Try.underlying22 hj0 hy0 hy1 hy2 rfl (.slice Al m cl) m (nums .i64 (ownsTo ms node x k)) rfl hX.out.2.1 (.int .i64 (k : Int)) 1 (by rfl) rfl (by omega) (by omega) HSZ.out ?_; intro v3 w6 o6 g6 at6)
        exact ⟨⟨k + 1, rfl, by omega, owning_add hX hm HSZ.out HIN.out o6 g6⟩, by simp only [intOf]; omega⟩
      · rw [decide_eq_false hin] at HC
        have HIN := Lib.hid hin
        clear hin
        go_wp2_with fail
        refine HC.out.mono ?_
        rintro e w2 ⟨rfl, b2⟩
        have B2 := Lib.hid b2
        clear b2 HC
        go_wp2_with fail
        exact ⟨⟨k + 1, rfl, by omega, owning_skip hH hm hb HNS.out.2 (B1.out.trans (B2.out.mono B1.out.size)) HIN.out⟩, by simp only [intOf]; omega⟩
    · have hk8 : k = 8 := by omega
      have HF := Lib.hid (fun j => HE.out _ wr j (by rw [← hk8]; exact hrel))
      clear HE HS hrel
      go_wp2_with fail
      go_ret
      exact HF.out 0
end Ring
end Go.Proofs.Ytfnjengcemokpaa
