/-
  The document's sessions: Lost.
-/
import Derived.Test.YtnmkhccgaedigaaSessLostPlain
namespace Go.Proofs.Ytnmkhccgaedigaa
namespace Sess
open Go.RowKit Blk Go.Maps
attribute [local go_sem ↓] Go.wp_at_zero Go.wp_at_succ
theorem nums_snoc (k : IntKind) (l : List Int) (x : Int) : nums k (l ++ [x]) = nums k l ++ [.int k x] := by simp [nums]
theorem info_i64 : (Try.prog.info? 2).map (fun i => (i.zero, i.size, i.bytes)) = some (some (.int .i64 0), 1, 8) := by kernel_rfl
section
variable {G : Nat → Prop} {w : World} {rb : Nat} {N : Int} {L : List Sn}
/-- What Lost answers. -/
def Ops (w : World) (ops : List Int) (e : Ending) (w' : World) : Prop := ∃ A c, e = .returned (.slice A ops.length c) ∧ Hid (w'.ownsRow w.heap.size 2 1 (.slice A ops.length c) ops.length (nums .i64 ops))
set_option maxRecDepth 100000 in
set_option maxHeartbeats 1000000 in
theorem rlost_any (h : RI G w rb N L) (hn : L.length ≤ 3000000000000) (hI : InvS N L) (site : Int) :
    Calls Try.prog 18 #[hd rb, .int .i64 site] w (fun e w' => Ops w (lostO L site) e w' ∧ RI G w' rb N (lostF L site) ∧ Stp G w G w') := by
  obtain ⟨n, hnn⟩ : ∃ n, L.length = n := ⟨_, rfl⟩
  obtain ⟨A, c, c0, c1⟩ := h.head n hnn
  obtain ⟨i0, hi0, hz0, hz1, hz2⟩ := info_parts info_i64
  rw [hnn] at hn
  have HH := Lib.hid (And.intro h (And.intro hI (And.intro hnn (fun k (hk : G k) => h.lt k hk))))
  clear h hI hnn c0 c1
  go_enter Try.func18, Try.ntmps18
  go_wp2_with fail
  go_loopw [5, 6] (fun v q wr => ∃ (k m : Nat) (Aq : Option Addr) (cq : Nat), v = .slice Aq m cq ∧ q = .int .i64 k ∧ k ≤ n ∧ m ≤ k ∧ Hid ((lostO (L.take k) site).length = m ∧ wr.ownsRow w.heap.size 2 1 (.slice Aq m cq) m (nums .i64 (lostO (L.take k) site)) ∧ RI G wr rb N (lostK L site k) ∧ Stp G w G wr)) (fun _ q _ => n - (intOf q).toNat)
  case atStart => exact ⟨0, 0, none, 0, rfl, rfl, by omega, by omega, Lib.hid ⟨rfl, World.ownsRow_nil _ _ _ _, by rw [lostK_zero]; exact HH.out.1, Stp.refl _ _⟩⟩
  case round =>
    obtain ⟨k, m, Aq, cq, rfl, rfl, hk, hm, hst⟩ := hrel
    by_cases hlt : k < n
    · have hkl : k < L.length := by have := HH.out.2.2.1; omega
      obtain ⟨x, hx⟩ : ∃ x, L[k]? = some x := ⟨_, List.getElem?_eq_getElem hkl⟩
      obtain ⟨A', c', n', g, At, ct, hn', hin, hA, _, d1, ⟨e0, e1, e2⟩, hfz, _, _, _⟩ := hst.out.2.2.1.at (lostK_at hx)
      obtain rfl : n' = n := by rw [lostK_length] at hn'; have := HH.out.2.2.1; omega
      subst hA
      have z1 : (0 : Int) ≤ (k : Int) := by omega
      have z2 : (k : Int) < (n' : Int) := by omega
      have e3 : IntKind.i64.wrap ((k : Int) + 1) = (k : Int) + 1 := Go.IntWalk.i64_in _ (by omega)
      have hop := (HH.out.2.1.1 x (List.mem_of_getElem? hx)).2.1.1
      by_cases hs : x.1 = site
      · have o1 : (x.1 == site) = true := by simp [hs]
        by_cases ho : x.2.2 = 0
        · have o2 : decide (0 < x.2.2) = false := decide_eq_false (by omega)
          have hP : lostP site x = false := by simp [lostP, ho]
          have HN := Lib.hid (And.intro (lostO_same hx hP) (lostK_same hx hP))
          clear hn' hx hop ho hP e1 hfz
          go_wp2_with fail
          exact ⟨⟨k + 1, m, Aq, cq, rfl, rfl, by omega, by omega, Lib.hid (by rw [HN.out.1, HN.out.2]; exact hst.out)⟩, by simp only [intOf]; omega⟩
        · have o2 : decide (0 < x.2.2) = true := decide_eq_true (by omega)
          have hP : lostP site x = true := by simp [lostP, ho, hs]
          have HN := Lib.hid (And.intro (lostO_next hx hP) (And.intro (lostK_next (site := site) hx) (And.intro (lostS_is hP) (lostK_at (site := site) hx))))
          clear hn' hx hop ho hP e1 hfz
          go_wp2_with (at_builtin; go_loud (refine wpList_append_lies _ (by rfl) _ _ _ (by rfl) w.heap.size 2 i0 _ 1 8 Try.underlying48 hi0 hz0 hz1 hz2 (by rfl) (by omega) (.slice Aq m cq) m (nums .i64 (lostO (L.take k) site)) (by rfl) (own_below hst.out.2.1 ((Below.refl _ _).alloc (Nat.le_refl _) _) (Nat.le_refl _)) ⟨_, 0, none⟩ 1 1 [.int .i64 x.2.2] (by rfl) (by rfl) (World.news_of_block (heap_alloc_new _ _)) (by simp [Value.oneCell']) (by omega) (by unfold maxLen; omega) (by omega) (Nat.le_trans hst.out.2.2.2.1.size (by simp)) _ rfl ?_); intro g7 cap7 w7 o7 gr7 at7 hl7; have C7 : Chg (fun j => w.heap.size ≤ j) wr w7 := (Chg.of_below ((Below.refl _ _).alloc (Nat.le_refl _) _)).trans (Chg.of_grown gr7 fun q hq => (hst.out.2.1.lt q hq).1) fun _ => .inl; have R7 := hst.out.2.2.1.chg C7 (fun j hj hh => by have := HH.out.2.2.2 j hj; omega); obtain ⟨A7, c7, n7, b7, At7, ct7, hn7, hin7, hA7, d70, d71, ⟨f70, f71, f72⟩, hf7, _, _, hset7⟩ := R7.at HN.out.2.2.2; obtain rfl : n7 = n' := (by rw [lostK_length] at hn7; have := HH.out.2.2.1; omega); subst hA7; have f73 := hf7 (k * 3 + 2); have HR7 := Lib.hid (And.intro (hset7 0) (And.intro o7 C7)); clear hset7 hf7 f70 f71 hn7 hin7 R7 C7 o7 gr7 at7)
          refine ⟨⟨k + 1, m + 1, some ⟨g7, 0, none⟩, cap7, rfl, rfl, by omega, by omega, Lib.hid ⟨?_, ?_, ?_, ?_⟩⟩, by simp only [intOf]; omega⟩
          · rw [HN.out.1, List.length_append, hst.out.1]
            rfl
          · rw [HN.out.1, nums_snoc]
            exact own_keep HR7.out.2.1 fun q hq => HR7.out.1.2.1.block q (HR7.out.2.1.lt q hq).2 fun hG => by have := HH.out.2.2.2 q hG; have := (HR7.out.2.1.lt q hq).1; omega
          · rw [HN.out.2.1, HN.out.2.2.1]
            exact HR7.out.1.1
          · exact ⟨(hst.out.2.2.2.1.trans HR7.out.2.2 fun _ => .inr).trans HR7.out.1.2.1 fun _ => .inl, fun _ => .inl⟩
      · have o1 : (x.1 == site) = false := by simp [hs]
        have hP : lostP site x = false := by simp [lostP, hs]
        have HN := Lib.hid (And.intro (lostO_same hx hP) (lostK_same hx hP))
        clear hn' hx hop hP e1 hfz
        go_wp2_with fail
        exact ⟨⟨k + 1, m, Aq, cq, rfl, rfl, by omega, by omega, Lib.hid (by rw [HN.out.1, HN.out.2]; exact hst.out)⟩, by simp only [intOf]; omega⟩
    · obtain rfl : k = n := by omega
      obtain ⟨A', c', d0, d1⟩ := hst.out.2.2.1.head k (by rw [lostK_length]; exact HH.out.2.2.1)
      have hLT : L.take k = L := List.take_of_length_le (by have := HH.out.2.2.1; omega)
      have hLK : lostK L site k = lostF L site := by have := HH.out.2.2.1; subst this; exact lostK_all L site
      rw [hLT, hLK] at hst
      have HS := Lib.hid (And.intro hLT hLK)
      clear hLT hLK
      go_wp2_with fail
      go_ret
      refine ⟨⟨Aq, cq, ?_, Lib.hid ?_⟩, hst.out.2.2⟩
      · rw [hst.out.1]
        rfl
      · rw [hst.out.1]
        exact hst.out.2.1
end
end Sess
end Go.Proofs.Ytnmkhccgaedigaa
