/-
  net: New, add, Send.
-/
import Derived.Test.YtinbaiblbbfnnaaNetDel
import Derived.WalkKit
namespace Go.Proofs.Ytinbaiblbbfnnaa
namespace Net
open Go.RowKit Blk Go.Maps
attribute [local go_sem ↓] Go.wp_at_zero Go.wp_at_succ

/-- A network in memory: the packets under way, the counters, who is parted. -/
def NI (F : Nat → Prop) (w : World) (nb : Nat) (P : List Pk) (s t u : Int) (C : Ad → Ad → Bool) (m : Nat) : Prop :=
  ∃ mb A c l D, l.map Prod.fst = P ∧ NO F w nb mb A c l.length l s t u m D ∧ MapIs D C ∧ l.length ≤ 4096
/-- One step: what was turned, and what the network is made of behind it. -/
def Stp (F : Nat → Prop) (w : World) (F' : Nat → Prop) (w' : World) : Prop := Chg F w w' ∧ ∀ k, F' k → F k ∨ w.heap.size ≤ k
section
variable {F F' F'' : Nat → Prop} {w w' w'' : World} {nb m : Nat} {P : List Pk} {s t u : Int} {C : Ad → Ad → Bool}
theorem Stp.refl (F : Nat → Prop) (w : World) : Stp F w F w := ⟨Chg.refl _ _, fun _ h => .inl h⟩
theorem Stp.of_below (h : Below w.heap.size w w') : Stp F w F w' := ⟨Chg.of_below h, fun _ h => .inl h⟩
theorem Stp.trans (h : Stp F w F' w') (h' : Stp F' w' F'' w'') : Stp F w F'' w'' := ⟨h.1.trans h'.1 h.2, fun k hk => (h'.2 k hk).elim (h.2 k) fun e => .inr (Nat.le_trans h.1.size e)⟩
theorem Stp.old {W : World} (h : Stp F w F' w') (hb : Below W.heap.size W w) (hF : ∀ k, F k → W.heap.size ≤ k) : Below W.heap.size W w' ∧ ∀ k, F' k → W.heap.size ≤ k :=
  ⟨hb.trans (h.1.below hF hb.size), fun k hk => (h.2 k hk).elim (hF k) fun e => Nat.le_trans hb.size e⟩
theorem NI.lt (h : NI F w nb P s t u C m) : ∀ k, F k → k < w.heap.size := by obtain ⟨mb, A, c, l, D, _, hs, _⟩ := h; exact hs.lt
theorem NI.below (h : NI F w nb P s t u C m) (hb : Below w.heap.size w w') : NI F w' nb P s t u C m := by obtain ⟨mb, A, c, l, D, e, hs, hr⟩ := h; exact ⟨mb, A, c, l, D, e, hs.below hb, hr⟩
theorem NI.chg {G : Nat → Prop} (h : NI F w nb P s t u C m) (hb : Chg G w w') (hG : ∀ k, F k → ¬ G k) : NI F w' nb P s t u C m := by obtain ⟨mb, A, c, l, D, e, hs, hr⟩ := h; exact ⟨mb, A, c, l, D, e, hs.chg hb hG, hr⟩
theorem NI.len (h : NI F w nb P s t u C m) : P.length ≤ 4096 := by obtain ⟨mb, A, c, l, D, e, hs, hr, hl⟩ := h; rw [← e]; simpa using hl
end

theorem new_any (w : World) : Calls Try.prog 10 #[] w (fun e w' => ∃ F nb, e = .returned (hd nb) ∧ Hid (NI F w' nb [] 0 0 0 (fun _ _ => false) 0 ∧ (∀ k, F k → w.heap.size ≤ k) ∧ Below w.heap.size w w')) := by
  have hmm := @run_makeMap Try.prog
  obtain ⟨U, hU⟩ : ∃ U, (w.alloc (.map #[] 0)).alloc (.cells #[.slice none 0 0, .map (some w.heap.size), .int .i64 0, .int .i64 0, .int .i64 0] 63) = U := ⟨_, rfl⟩
  have hb : Below w.heap.size w U := by rw [← hU]; exact ((Below.refl _ w).alloc (Nat.le_refl _) _).alloc (by simp) _
  have hS : NI (fun k => k = w.heap.size ∨ k = w.heap.size + 1) U (w.heap.size + 1) [] 0 0 0 (fun _ _ => false) 0 := by
    have hm := World.ownsMap_made (H := Unit) w Try.prog 66 unitElem
    have hB : Bn (w.heap.size + 1) 63 [.slice none 0 0, .map (some w.heap.size), .int .i64 0, .int .i64 0, .int .i64 0] U := by
      rw [← hU]
      have h := heap_alloc_new (w.alloc (.map #[] 0)) (.cells #[.slice none 0 0, .map (some w.heap.size), .int .i64 0, .int .i64 0, .int .i64 0] 63)
      rw [World.size_alloc] at h
      exact h
    exact ⟨w.heap.size, none, 0, [], .map [], rfl, ⟨⟨hB, World.ownsRow_nil _ _ _ _, by rw [← hU]; exact hm.alloc _⟩, ⟨rfl, List.Pairwise.nil, fun x hx => by cases hx⟩, .inr rfl, .inl rfl, (fun g hg => by cases hg), fun k hk => by rw [← hU]; simp; omega⟩, map_none, by simp⟩
  have HB := Lib.hid (And.intro hS hb)
  have HU := Lib.hid hU
  clear hb hU hS
  go_enter Try.func10, Try.ntmps10
  go_wp2_with fail
  rw [HU.out]
  go_ret
  exact ⟨_, _, rfl, Lib.hid ⟨HB.out.1, fun k hk => by omega, HB.out.2⟩⟩

section
variable {F : Nat → Prop} {w : World} {nb m : Nat} {P : List Pk} {s t u : Int} {C : Ad → Ad → Bool}
theorem add_full (h : NI F w nb P s t u C m) (hf : 4096 ≤ P.length) (a1 a2 b1 b2 : Int) (v : Value) :
    Calls Try.prog 34 #[hd nb, .agg #[.int .i64 a1, .int .i64 a2, .int .i64 b1, .int .i64 b2, v]] w (fun e w' => e = .returned (.bool false) ∧ Below w.heap.size w w') := by
  obtain ⟨mb, A, c, l, D, e, hS, hM, hl⟩ := h
  obtain ⟨n, hn⟩ : ∃ n, l.length = n := ⟨_, rfl⟩
  have hnP : n = P.length := by rw [← e, List.length_map, hn]
  rw [hn] at hS hl
  obtain ⟨U, hU⟩ : ∃ U, w.alloc (.cells #[.int .i64 a1, .int .i64 a2, .int .i64 b1, .int .i64 b2, v] 36) = U := ⟨_, rfl⟩
  have hb : Below w.heap.size w U := by rw [← hU]; exact (Below.refl _ w).alloc (Nat.le_refl _) _
  have c0 := (hS.below hb).1.1.cell 0
  simp only [List.getElem?_cons_zero] at c0
  have d1 : decide ((4096 : Int) ≤ (n : Int)) = true := decide_eq_true (by omega)
  have HB := Lib.hid hb
  clear hS hM hl hb hn hnP hf e
  go_enter Try.func34, Try.ntmps34
  go_wp2_with fail
  go_ret
  exact ⟨rfl, HB.out⟩
set_option maxRecDepth 100000 in
set_option maxHeartbeats 1000000 in
theorem add_more (h : NI F w nb P s t u C m) (hf : P.length < 4096) (a1 a2 b1 b2 : Int) (zs : List Int) (k : Nat) (hk : zs.length = k) (Ad : Option Addr) (cd : Nat) (hr : Ns .u8 w w.heap.size Ad zs) (hok : OkP ((a1, a2), (b1, b2), zs)) :
    Calls Try.prog 34 #[hd nb, .agg #[.int .i64 a1, .int .i64 a2, .int .i64 b1, .int .i64 b2, .slice Ad k cd]] w (fun e w' => e = .returned (.bool true) ∧ ∃ F', Hid (NI F' w' nb (P ++ [((a1, a2), (b1, b2), zs)]) s t u C m ∧ Stp F w F' w')) := by
  obtain ⟨mb, A, c, l, D, e, hS, hM, hl⟩ := h
  obtain ⟨n, hn⟩ : ∃ n, l.length = n := ⟨_, rfl⟩
  have hnP : n = P.length := by rw [← e, List.length_map, hn]
  rw [hn] at hS hl
  have hn4 : n < 4096 := by omega
  obtain ⟨i0, hi0, hz0, hz1, hz2⟩ := info_parts info_pkt
  obtain ⟨U, hU⟩ : ∃ U, w.alloc (.cells #[.int .i64 a1, .int .i64 a2, .int .i64 b1, .int .i64 b2, .slice Ad k cd] 36) = U := ⟨_, rfl⟩
  have hb : Below w.heap.size w U := by rw [← hU]; exact (Below.refl _ w).alloc (Nat.le_refl _) _
  have hB : Bn w.heap.size 36 [.int .i64 a1, .int .i64 a2, .int .i64 b1, .int .i64 b2, .slice Ad k cd] U := by rw [← hU]; exact heap_alloc_new w _
  have hSU := hS.below hb
  have x0 := hSU.1.1.cell 0
  have x1 := hB.cell 0
  have x2 := hB.cell 1
  have x3 := hB.cell 2
  have x4 := hB.cell 3
  have x5 := hB.cell 4
  simp only [List.getElem?_cons_zero, List.getElem?_cons_succ] at x0 x1 x2 x3 x4 x5
  have d1 : decide ((4096 : Int) ≤ (n : Int)) = false := decide_eq_false (by omega)
  have H3 := Lib.hid (fresh_any U.drew a1 a2 b1 b2 zs k hk Ad cd ((hr.below hb).more hb.size) (by have := hok.2.1; simp only at this; omega))
  have hcf : ∀ (a : Array Value) (w : World), (callFunc 33 a).run Try.prog w = .ok (.enter 33 a) w := fun a w => by simp [go_sem]
  have HS := Lib.hid (And.intro hSU (And.intro hB (And.intro hb (And.intro e (And.intro hn (And.intro hM (And.intro hok hk)))))))
  clear hS hM hl hb hn hnP hf e hB hSU hr hok hk
  go_enter Try.func34, Try.ntmps34
  go_wp2_with fail
  go_region_law (first
    | (refine step_call (by rfl) 33 _ _ (by rfl) (hcf _ _) #[.agg #[.int .i64 a1, .int .i64 a2, .int .i64 b1, .int .i64 b2, .slice Ad k cd]] (by simp [Act.eval]) (H3.out) (fun e w' h => by obtain ⟨_, _, rfl, _⟩ := h; exact ⟨_, rfl⟩) ?_; rintro v2 w2 ⟨A1, c1, hv2, o2, bb2⟩; injection hv2 with hv2; subst hv2; have q0 := (HS.out.1.below (show Below U.heap.size U w2 from (show Below U.heap.size U U.drew from (Below.refl _ U).drew).trans bb2)).1.1.cell 0; have p0 := (HS.out.1.below ((show Below U.heap.size U w2 from (show Below U.heap.size U U.drew from (Below.refl _ U).drew).trans bb2).alloc bb2.size (.cells #[.int .i64 a1, .int .i64 a2, .int .i64 b1, .int .i64 b2, .slice A1 k c1] 36))).1.1.cell 0; simp only [List.getElem?_cons_zero] at q0 p0)
    | (refine step_append_lies _ (by rfl) _ _ _ (by rfl) 0 36 i0 _ 5 56 Try.underlying27 hi0 hz0 hz1 hz2 (by rfl) (by omega) (.slice A n c) n (pcs _) (by rfl) (HS.out.1.below ((show Below U.heap.size U w2 from (show Below U.heap.size U U.drew from (Below.refl _ U).drew).trans bb2).alloc bb2.size (.cells #[.int .i64 a1, .int .i64 a2, .int .i64 b1, .int .i64 b2, .slice A1 k c1] 36))).1.2.1 ⟨w2.heap.size, 0, none⟩ 1 1 [.int .i64 a1, .int .i64 a2, .int .i64 b1, .int .i64 b2, .slice A1 k c1] (by rfl) (by rfl) (World.news_of_block (heap_alloc_new w2 _)) (by simp [Value.oneCell']) (by omega) (by unfold maxLen; omega) (by omega) (Nat.zero_le _) (w2.heap.size + 1) (by simp) ?_; intro g7 cap7 w7 o7 gr7 at7 hl7; have hB7 := (HS.out.1.below ((show Below U.heap.size U w2 from (show Below U.heap.size U U.drew from (Below.refl _ U).drew).trans bb2).alloc bb2.size (.cells #[.int .i64 a1, .int .i64 a2, .int .i64 b1, .int .i64 b2, .slice A1 k c1] 36))); have r0 := (hB7.1.1.kept gr7 (fun q => own_ne hB7.1.2.1 hB7.1.1 (by decide) q.symm)).cell 0; have r1 := (hB7.1.1.kept gr7 (fun q => own_ne hB7.1.2.1 hB7.1.1 (by decide) q.symm)).frozen 0; simp only [List.getElem?_cons_zero] at r0))
  all_goals
    have hb2 : Below U.heap.size U w2 := (show Below U.heap.size U U.drew from (Below.refl _ U).drew).trans bb2
    have HZ := Lib.hid (And.intro hb2 (And.intro o2 (And.intro o7 (And.intro gr7 (And.intro at7 hl7)))))
    clear hb2 o2 o7 gr7 at7 hl7 hB7 bb2
    go_wp2_with fail
    go_ret
    refine ⟨rfl, fun j => F j ∨ (U.heap.size ≤ j ∧ j < w7.heap.size), Lib.hid ?_⟩
    obtain ⟨hS, hB, hb, e, hn, hM, hok, hk⟩ := HS.out
    obtain ⟨hb2, o2, o7, gr7, at7, hl7⟩ := HZ.out
    subst hk
    have hbv := hb2.alloc hb2.size (.cells #[.int .i64 a1, .int .i64 a2, .int .i64 b1, .int .i64 b2, .slice A1 zs.length c1] 36)
    have hP := hS.push hbv (((a1, a2), (b1, b2), zs), A1, c1) (o2.alloc _) hok o7 gr7 at7 (by have := hb2.size; omega) hl7
    have hgs := gset w7 nb 0 (.slice (some ⟨g7, 0, none⟩) (n + 1) cap7)
    refine ⟨⟨mb, some ⟨g7, 0, none⟩, cap7, l ++ [(((a1, a2), (b1, b2), zs), A1, c1)], D, by rw [List.map_append, e]; rfl, ?_, hM, by rw [List.length_append, hn]; simp; omega⟩, ?_, fun j hj => hj.imp id fun q => Nat.le_trans hb.size q.1⟩
    · rw [List.length_append, hn]
      exact hP
    · refine ((Chg.of_below (hb.trans (hbv.mono hb.size))).trans (Chg.of_grown gr7 fun g hg => hS.2.2.2.2.1 g hg) fun j hj => .inl hj).trans (Chg.of_grown hgs fun g hg => by injection hg with hg; subst hg; exact hS.2.2.1) fun j hj => .inl hj
end
end Net
end Go.Proofs.Ytinbaiblbbfnnaa
