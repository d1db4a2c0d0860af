/-
  The set of all dots that a vector covers: vect.Set and firthref04.Set.
-/
import Derived.Test.YtpgpeigaoonpcacVectJoinRef
import Derived.Test.YtpgpeigaoonpcacSpanPut
namespace Go.Proofs.Ytpgpeigaoonpcac
namespace Vect
open Go.RowKit Span
attribute [local go_sem ↓] Go.wp_at_zero Go.wp_at_succ

/-- One span for each site that has a count. -/
def setTo (v : List Int) : Nat → List Sp
  | 0 => []
  | k + 1 => setTo v k ++ (if 0 < v.getD k 0 then [((k : Int) + 1, 1, v.getD k 0)] else [])
def setV (v : List Int) : List Sp := if RightV v then setTo v v.length else []
theorem setTo_len (v : List Int) (k : Nat) : (setTo v k).length ≤ k := by
  induction k with
  | zero => simp [setTo]
  | succ k ih =>
    simp only [setTo, List.length_append]
    split
    · simp; omega
    · simp; omega
theorem setTo_more {v : List Int} {k : Nat} {x : Int} (hx : v.getD k 0 = x) (h : 0 < x) : setTo v (k + 1) = setTo v k ++ [((k : Int) + 1, 1, x)] := by
  simp only [setTo]
  rw [hx, if_pos h]
theorem setTo_skip {v : List Int} {k : Nat} {x : Int} (hx : v.getD k 0 = x) (h : ¬ 0 < x) : setTo v (k + 1) = setTo v k := by
  simp only [setTo]
  rw [hx, if_neg h, List.append_nil]
theorem set_wrong {v : List Int} (h : ¬ RightV v) : setV v = [] := if_neg h
theorem set_good {v : List Int} (h : RightV v) : setV v = setTo v v.length := if_pos h

set_option maxHeartbeats 1000000 in
theorem set_any (A : Option Addr) (c n : Nat) (v : List Int) (hn : v.length = n) (w : World) (hr : Ns .i64 w w.heap.size A v) (hbig : n ≤ 140737488355328) :
    Calls Try.prog 8 #[.slice A n c] w (GotSs w.heap.size (setV v) w) := by
  have h1 := right_v A c n v hn w hr hbig
  obtain ⟨q, hq⟩ : ∃ q, decide (RightV v) = q := ⟨_, rfl⟩
  rw [hq] at h1
  obtain ⟨L, hL⟩ : ∃ L, setV v = L := ⟨_, rfl⟩
  rw [hL]
  have H1 := Lib.hid h1
  have HR := Lib.hid hr
  cases q
  · have HW := Lib.hid (hL.symm.trans (set_wrong (of_decide_eq_false hq)))
    clear h1 hr hn hL hq HR
    go_enter Try.func8, Try.ntmps8
    go_wp2_with fail
    refine H1.out.mono ?_
    rintro e w1 ⟨rfl, b1⟩
    go_wp2
    go_ret
    rw [HW.out]
    exact ⟨none, 0, rfl, World.ownsRow_nil _ _ _ _, b1⟩
  · have hR := of_decide_eq_true hq
    have hn1 : n ≤ 16 := by rw [← hn]; exact hR.2.1
    have HW := Lib.hid (hL.symm.trans (set_good hR))
    have HN := Lib.hid hn
    obtain ⟨info, hi, hz, hsize, hby⟩ := info_span
    have HI := Lib.hid (And.intro hi (And.intro hz (And.intro hsize hby)))
    clear h1 hr hn hL hq hR hi hz hsize hby
    go_enter Try.func8, Try.ntmps8
    go_wp2_with fail
    refine H1.out.mono ?_
    rintro e w1 ⟨rfl, b1⟩
    have HB1 := Lib.hid b1
    clear b1 H1
    go_wp2
    go_loopw [3, 11] (fun u q wr => ∃ (k j : Nat) (Ao : Option Addr) (co : Nat), k ≤ n ∧ j ≤ k ∧ q = .int .i64 k ∧ u = .slice Ao j co ∧ Hid ((setTo v k).length = j) ∧ Hid (wr.ownsRow w.heap.size 50 3 (.slice Ao j co) j (sps (setTo v k))) ∧ Hid (Below w.heap.size w wr)) (fun _ q _ => n - (intOf q).toNat)
    case atStart => exact ⟨0, 0, none, 0, by omega, by omega, rfl, rfl, rfl, World.ownsRow_nil _ _ _ _, HB1⟩
    case round =>
      obtain ⟨k, j, Ao, co, hk, hjk, rfl, rfl, hj, ho, hb⟩ := hrel
      clear HB1
      by_cases hlt : k < n
      · obtain ⟨x, hx⟩ : ∃ x, v.getD k 0 = x := ⟨_, rfl⟩
        obtain ⟨b, off, rfl, hbB, d0⟩ := ns_cell HR.out HN.out hb.out hlt hx
        have hsz := hb.out.size
        by_cases hx0 : 0 < x
        · have HT := Lib.hid (setTo_more hx hx0)
          clear hx HR HN HW
          go_wp2_with (at_builtin; refine wpList_append_sp _ rfl _ _ _ rfl w.heap.size 50 info _ 24 Try.underlying27 HI.out.1 HI.out.2.1 HI.out.2.2.1 HI.out.2.2.2 rfl _ j (setTo v k) rfl ho.out ((k : Int) + 1, 1, x) 1 rfl (by omega) (by omega) hsz ?_; intro v2 w2 o2 g2 _; obtain ⟨A2, c2, rfl⟩ := own_form o2)
          exact ⟨⟨k + 1, j + 1, A2, c2, by omega, by omega, rfl, rfl, Lib.hid (by rw [HT.out, List.length_append, hj.out]; rfl), Lib.hid (by rw [HT.out]; exact o2), Lib.hid (hb.out.grown g2 hsz (fun g hg => (ho.out.lt g hg).1))⟩, by simp only [intOf]; omega⟩
        · have HT := Lib.hid (setTo_skip hx hx0)
          clear hx HR HN HW
          go_wp2
          exact ⟨⟨k + 1, j, Ao, co, by omega, by omega, rfl, rfl, Lib.hid (by rw [HT.out]; exact hj.out), Lib.hid (by rw [HT.out]; exact ho.out), hb⟩, by simp only [intOf]; omega⟩
      · have hk0 : v.length = k := by rw [HN.out]; omega
        have HK := Lib.hid hk0
        clear hk0 HR HN
        go_wp2
        go_ret
        rw [HW.out, HK.out]
        exact ⟨Ao, co, by rw [hj.out]; rfl, by rw [hj.out]; exact ho.out, hb.out⟩

end Vect
end Go.Proofs.Ytpgpeigaoonpcac
