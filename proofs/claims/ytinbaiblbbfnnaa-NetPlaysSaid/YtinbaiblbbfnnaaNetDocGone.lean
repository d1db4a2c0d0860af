/-
  The document's gone: a packet is under way no more (layer 8).
-/
import Derived.Test.YtinbaiblbbfnnaaNetDocStep
namespace Go.Proofs.Ytinbaiblbbfnnaa
namespace Net
open Go.RowKit Blk
attribute [local go_sem ↓] Go.wp_at_zero Go.wp_at_succ
/-- The first i packets without the j-th. -/
def goneL (l : List PE) (j i : Nat) : List PE := (l.take i).eraseIdx j
theorem gone_zero (l : List PE) (j : Nat) : goneL l j 0 = [] := by simp [goneL]
theorem gone_skip {l : List PE} {j : Nat} (hj : j < l.length) : goneL l j (j + 1) = goneL l j j := by
  unfold goneL
  rw [List.take_succ_eq_append_getElem hj, List.eraseIdx_append_of_length_le (by rw [List.length_take]; omega), List.length_take, Nat.min_eq_left (by omega), Nat.sub_self, List.eraseIdx_of_length_le (l := List.take j l) (by rw [List.length_take]; omega)]
  simp
theorem gone_more {l : List PE} {j i : Nat} {x : PE} (hx : l[i]? = some x) (hj : i ≠ j) : goneL l j (i + 1) = goneL l j i ++ [x] := by
  obtain ⟨hi, rfl⟩ := List.getElem?_eq_some_iff.1 hx
  unfold goneL
  rw [List.take_succ_eq_append_getElem hi]
  rcases Nat.lt_or_gt_of_ne hj with h | h
  · rw [List.eraseIdx_of_length_le (by rw [List.length_append, List.length_take]; simp; omega), List.eraseIdx_of_length_le (by rw [List.length_take]; omega)]
  · rw [List.eraseIdx_append_of_lt_length (by rw [List.length_take]; omega)]
theorem gone_len {l : List PE} {j i : Nat} (hi : i ≤ l.length) (_hj : j < l.length) : (goneL l j i).length = if j < i then i - 1 else i := by
  unfold goneL
  rw [List.length_eraseIdx, List.length_take, Nat.min_eq_left hi]
section
variable {F : Nat → Prop} {w : World} {mb : Nat} {A : Option Addr} {c n : Nat} {l : List PE} {B : Option Addr} {q k : Nat} {cs : List Ct} {s t u : Int}
set_option maxRecDepth 100000 in
set_option maxHeartbeats 2000000 in
theorem doc_gone (h : RN F w mb A c n l B q k cs s t u) (hn4 : n ≤ 4096) (j : Nat) (hj : j < n) :
    Calls Try.prog 38 #[.pointer (some ⟨mb, 0, none⟩), .int .i64 j] w (fun e w' => e = .returned (.tuple #[]) ∧ ∃ F' A' c' n', Hid (n' + 1 = n ∧ RN F' w' mb A' c' n' (l.eraseIdx j) B q k cs s t u ∧ Stp F w F' w' ∧ ∀ x ∈ l, PkOK F w' x)) := by
  obtain ⟨i0, hi0, hz0, hz1, hz2⟩ := info_parts info_pkt
  have HH := Lib.hid h
  have hln : l.length = n := h.2.1.1
  have HL := Lib.hid hln
  clear h hln
  go_enter Try.func38, Try.ntmps38
  go_wp2_with fail
  go_loopw [4, 5] (fun v iv V => ∃ (i m : Nat) (Aq : Option Addr) (cq : Nat), v = .slice Aq m cq ∧ iv = .int .i64 i ∧ i ≤ n ∧ m ≤ i ∧ Hid ((goneL l j i).length = m ∧ V.ownsRow w.heap.size 36 5 (.slice Aq m cq) m (pcs (goneL l j i)) ∧ Below w.heap.size w V)) (fun _ iv _ => n - (intOf iv).toNat)
  case atStart => exact ⟨0, 0, none, 0, rfl, rfl, by omega, by omega, Lib.hid ⟨by rw [gone_zero]; rfl, World.ownsRow_nil _ _ _ _, Below.refl _ _⟩⟩
  case round =>
    obtain ⟨i, m, Aq, cq, rfl, rfl, hi, hm, hst⟩ := hrel
    obtain ⟨m0, _, _, _, _⟩ := (HH.out.below hst.out.2.2).head
    by_cases hlt : i < n
    · obtain ⟨⟨⟨⟨a1, a2⟩, ⟨b1, b2⟩, zs⟩, Ax, cx⟩, hx⟩ : ∃ x, l[i]? = some x := ⟨_, List.getElem?_eq_getElem (by have := HL.out; omega)⟩
      obtain ⟨g, rfl, _, p0, p1, p2, p3, p4⟩ := (HH.out.below hst.out.2.2).pkt_at hx
      unfold dV at p4
      simp only at p0 p1 p2 p3 p4
      have d1 : (0 : Int) ≤ (i : Int) := by omega
      have d2 : (i : Int) < (n : Int) := by omega
      by_cases hij : i = j
      · subst hij
        have HN := Lib.hid (gone_skip (l := l) (j := i) (by have := HL.out; omega))
        have o1 : ((i : Int) == (i : Int)) = true := by simp
        clear hx p0 p1 p2 p3 p4
        go_wp2_with fail
        exact ⟨⟨i + 1, m, Aq, cq, rfl, rfl, by omega, by omega, Lib.hid (by rw [HN.out]; exact hst.out)⟩, by simp only [intOf]; omega⟩
      · have HN := Lib.hid (gone_more (j := j) hx hij)
        have o1 : ((i : Int) == (j : Int)) = false := by rw [beq_eq_false_iff_ne]; omega
        have o2 : ¬ (i : Int) = (j : Int) := by omega
        have HI := Lib.hid hij
        clear hx hij
        go_wp2_with (at_builtin; refine wpList_append_pk rfl _ _ 27 rfl w.heap.size 36 i0 _ 56 Try.underlying27 hi0 hz0 hz1 hz2 rfl (.slice Aq m cq) m (goneL l j i) rfl hst.out.2.1 (((a1, a2), (b1, b2), zs), Ax, cx) 1 rfl (by omega) (by omega) hst.out.2.2.size ?_; intro v7 w7 o7 g7 at7; obtain ⟨A7, c7, rfl⟩ := own_form o7; have HZ := Lib.hid (And.intro o7 (And.intro g7 at7)); clear o7 g7 at7)
        refine ⟨⟨i + 1, m + 1, A7, c7, rfl, rfl, by omega, by omega, Lib.hid ⟨?_, ?_, ?_⟩⟩, by simp only [intOf]; omega⟩
        · rw [HN.out, List.length_append, hst.out.1]
          rfl
        · rw [HN.out]
          exact HZ.out.1
        · exact hst.out.2.2.grown HZ.out.2.1 hst.out.2.2.size fun g hg => (hst.out.2.1.lt g hg).1
    · obtain rfl : i = n := by omega
      have HM : Hid (m + 1 = i ∧ goneL l j i = l.eraseIdx j) := Lib.hid (by
        have h1 := hst.out.1
        rw [gone_len (by have := HL.out; omega) (by have := HL.out; omega), if_pos hj] at h1
        exact ⟨by omega, by unfold goneL; rw [List.take_of_length_le (by have := HL.out; omega)]⟩)
      have HO := hst.out.2.1
      rw [HM.out.2] at HO
      have HB := Lib.hid hst.out.2.2
      have HR := Lib.hid (And.intro hst.out.1 HO)
      clear HO
      rw [HM.out.2] at HR
      have f0 := (HH.out.below HB.out).frozen 0
      go_wp2_with fail
      refine bodyPost_end (v := .tuple #[]) (results_none rfl _ _ _) rfl ?_
      refine ⟨rfl, fun j => F j ∨ (w.heap.size ≤ j ∧ j < wr.heap.size), Aq, cq, m, Lib.hid ⟨HM.out.1, ?_, ⟨?_, ?_⟩, ?_⟩⟩
      · refine HH.out.relist HB.out.size (fun x hx _ => HB.out.block x (HH.out.lt x hx)) (fun _ => .inl) (fun x hx => hx.elim (fun hx => Nat.lt_of_lt_of_le (HH.out.lt x hx) HB.out.size) fun hx => hx.2) HR.out.1 (own_base0 HR.out.2) (fun g hg => .inr (HR.out.2.lt g hg)) fun x hx => ?_
        exact HH.out.pks (fun x hx _ => HB.out.block x (HH.out.lt x hx)) (fun _ => .inl) x (List.mem_of_mem_eraseIdx hx)
      · exact (Chg.of_below HB.out).trans (Chg.of_grown (gset wr mb 0 _) fun g hg => by injection hg with hg; subst hg; exact HH.out.mbF) fun _ => .inl
      · exact fun x hx => hx.imp id fun q => q.1
      · intro x hx
        obtain ⟨h1, h2, h3⟩ := HH.out.2.1.2.2 x hx
        refine ⟨own_keep h1 fun g hg => ((gset wr mb 0 _).block g (Nat.lt_of_lt_of_le (h1.lt g hg).2 HB.out.size) fun e => own_ne h1 HH.out.1 (by decide) (by rw [hg, e])).trans (HB.out.block g (h1.lt g hg).2), h2, h3⟩
end
end Net
end Go.Proofs.Ytinbaiblbbfnnaa
