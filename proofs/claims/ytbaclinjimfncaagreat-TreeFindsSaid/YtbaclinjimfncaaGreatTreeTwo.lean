/-
  Two trees in one world: the first as it was built; the other, whose records change, with the records of a list beside it.
-/
import Derived.Test.YtbaclinjimfncaaGreatTreePair
namespace Go.Proofs.YtbaclinjimfncaaGreat
namespace Tree
open Go.RowKit Vers Num Ring Disk Blk
open Go.Proofs.YtbaclinjimfncaaGreat.Code hiding Bn
/-! ### Plain -/
theorem drop_out {L : List Rc} (hs : Srt L) {k : Nat} (hk : k < L.length) {r : Rc} (hr : L.getD k r0 = r) : withR (L.drop k) (r.1, []) = L.drop (k + 1) := by
  have h1 : Srt (L.drop k) := List.Pairwise.sublist (List.drop_sublist _ _) hs
  have e := drop_at hk
  rw [hr] at e
  rw [e] at h1 ⊢
  have h2 : Srt (L.drop (k + 1)) := (List.pairwise_cons.1 h1).2
  refine srt_mem (with_srt h1 _) h2 fun x => ?_
  rw [with_mem]
  constructor
  · rintro (⟨_, h⟩ | ⟨h, hne⟩)
    · exact absurd rfl h
    · rcases List.mem_cons.1 h with h | h
      · exact absurd (by rw [h]) hne
      · exact h
  · intro h
    exact .inr ⟨List.mem_cons_of_mem _ h, fun e => nlt_ne ((List.pairwise_cons.1 h1).1 x h) e.symm⟩
theorem take_in {L : List Rc} (hs : Srt L) {k : Nat} (hk : k < L.length) {r : Rc} (hr : L.getD k r0 = r) (hne : r.2 ≠ []) : withR (L.take k) r = L.take (k + 1) := by
  have h1 : Srt (L.take (k + 1)) := List.Pairwise.sublist (List.take_sublist _ _) hs
  have e := take_at hk
  rw [hr] at e
  rw [e] at h1 ⊢
  have h2 := List.pairwise_append.1 h1
  refine srt_mem (with_srt h2.1 _) h1 fun x => ?_
  rw [with_mem, List.mem_append, List.mem_singleton]
  constructor
  · rintro (⟨h, _⟩ | ⟨h, _⟩)
    · exact .inr h
    · exact .inl h
  · rintro (h | h)
    · exact .inr ⟨h, nlt_ne (h2.2.2 x h r (by simp))⟩
    · exact .inl ⟨h, hne⟩
theorem drop_in {L : List Rc} (hs : Srt L) {k : Nat} (hk : k < L.length) {r : Rc} (hr : L.getD k r0 = r) (hne : r.2 ≠ []) : withR (L.drop (k + 1)) r = L.drop k := by
  have h1 : Srt (L.drop k) := List.Pairwise.sublist (List.drop_sublist _ _) hs
  have e := drop_at hk
  rw [hr] at e
  rw [e] at h1 ⊢
  have h2 := List.pairwise_cons.1 h1
  refine srt_mem (with_srt h2.2 _) h1 fun x => ?_
  rw [with_mem, List.mem_cons]
  constructor
  · rintro (⟨h, _⟩ | ⟨h, _⟩)
    · exact .inl h
    · exact .inr h
  · rintro (h | h)
    · exact .inl ⟨h, hne⟩
    · exact .inr ⟨h, fun e => nlt_ne (h2.1 x h) e.symm⟩
/-! ### Memory -/
theorem ns_row1 (w : World) (x : Int) : Ns .i64 (w.alloc (.cells #[.int .i64 x] 3)) (w.alloc (.cells #[.int .i64 x] 3)).heap.size (some ⟨w.heap.size, 0, none⟩) [x] := fun _ =>
  ⟨w.heap.size, 0, rfl, by simp, fun j hj => by
    obtain rfl : j = 0 := by simp at hj; omega
    simp⟩
/-- Two trees: the first as it was built; the second with the records K, and the records L2 of its list beside it. -/
def Two (w : World) (B1 tb1 : Nat) (L1 : List Rc) (v1 : Value) (B2 tb2 : Nat) (K L2 : List Rc) (v2 : Value) (W : World) : Prop :=
  w.heap.size ≤ B1 ∧ B1 ≤ B2 ∧ ∃ F1 ps1 F2 ps2, Pair F1 w B1 W tb1 L1 v1 ps1 ∧ (∀ k, F1 k → k < B2) ∧ (∀ g, v1.ownBlock = some g → g < B2) ∧ On F2 w W tb2 K ∧ (∀ k, F2 k → B2 ≤ k) ∧ ps2.map Prod.fst = L2 ∧ RowX B2 w.heap.size W v2 ps2 ∧ ∀ g, v2.ownBlock = some g → ¬ F2 g
section
variable {w W W' : World} {B1 tb1 B2 tb2 : Nat} {L1 K K' L2 : List Rc} {v1 v2 : Value}
theorem Two.start (hB : w.heap.size ≤ B1) (h1 : Tw w B1 tb1 L1 v1 W) (h2 : Tw w W.heap.size tb2 L2 v2 W') (hb : Below W.heap.size W W') (hBW : B1 ≤ W.heap.size) : Two w B1 tb1 L1 v1 W.heap.size tb2 L2 L2 v2 W' := by
  obtain ⟨_, F1, ps1, hp1⟩ := h1
  obtain ⟨_, F2, ps2, hp2⟩ := h2
  exact ⟨hB, hBW, F1, ps1, F2, ps2, hp1.below hb, fun k hk => hp1.1.lt hk, fun g hg => (hp1.2.2.1.lt g hg).2, hp2.1, hp2.2.2.2.2, hp2.2.1, hp2.2.2.1, hp2.2.2.2.1⟩
theorem Two.old (h : Two w B1 tb1 L1 v1 B2 tb2 K L2 v2 W) : Below w.heap.size w W := by
  obtain ⟨_, _, F1, ps1, F2, ps2, hp, _⟩ := h
  exact hp.1.old
theorem Two.below (h : Two w B1 tb1 L1 v1 B2 tb2 K L2 v2 W) (hb : Below W.heap.size W W') : Two w B1 tb1 L1 v1 B2 tb2 K L2 v2 W' := by
  obtain ⟨q1, q2, F1, ps1, F2, ps2, hp, a1, a2, o2, a3, a4, a5, a6⟩ := h
  exact ⟨q1, q2, F1, ps1, F2, ps2, hp.below hb, a1, a2, o2.below hb, a3, a4, a5.keep (fun g hg => hb.block g (a5.lt g hg).2) (fun k hk => hb.block k (Nat.lt_of_lt_of_le hk o2.old.size)), a6⟩
theorem Two.rs1 {A : Option Addr} {n c : Nat} (h : Two w B1 tb1 L1 (.slice A n c) B2 tb2 K L2 v2 W) : Rb W w.heap.size A L1 := by
  obtain ⟨q1, q2, F1, ps1, F2, ps2, hp, a1, a2, o2, a3, a4, a5, a6⟩ := h
  rw [← hp.2.1]
  exact hp.2.2.1.rb
theorem Two.rs2 {A : Option Addr} {n c : Nat} (h : Two w B1 tb1 L1 v1 B2 tb2 K L2 (.slice A n c) W) : Rb W w.heap.size A L2 := by
  obtain ⟨q1, q2, F1, ps1, F2, ps2, hp, a1, a2, o2, a3, a4, a5, a6⟩ := h
  rw [← a4]
  exact a5.rb
/-- The second tree is turned. -/
theorem Two.step (q1 : w.heap.size ≤ B1) (q2 : B1 ≤ B2) {F1 F2 F2' : Nat → Prop} {ps1 ps2 : List Pr} (hp : Pair F1 w B1 W tb1 L1 v1 ps1) (a1 : ∀ k, F1 k → k < B2) (a2 : ∀ g, v1.ownBlock = some g → g < B2) (a3 : ∀ k, F2 k → B2 ≤ k) (hB : B2 ≤ W.heap.size) (a4 : ps2.map Prod.fst = L2) (a5 : RowX B2 w.heap.size W v2 ps2) (a6 : ∀ g, v2.ownBlock = some g → ¬ F2 g)
    (o2 : On F2' w W' tb2 K') (hs : Stp F2 W F2' W') : Two w B1 tb1 L1 v1 B2 tb2 K' L2 v2 W' := by
  have hw : ∀ k, F2 k → w.heap.size ≤ k := fun k hk => Nat.le_trans q1 (Nat.le_trans q2 (a3 k hk))
  refine ⟨q1, q2, F1, ps1, F2', ps2, hp.chg hs.1 (fun k hk hf => by have := a1 k hk; have := a3 k hf; omega) (fun g hg hf => by have := a2 g hg; have := a3 g hf; omega) hw, a1, a2, o2, fun k hk => (hs.2 k hk).elim (a3 k) (Nat.le_trans hB), a4, a5.keep (fun g hg => hs.1.block g (a5.lt g hg).2 (a6 g hg)) (fun k hk => hs.1.block k (Nat.lt_of_lt_of_le hk hp.1.old.size) fun e => by have := hw k e; omega), fun g hg hf => ?_⟩
  rcases hs.2 g hf with e | e
  · exact a6 g hg e
  · have := (a5.lt g hg).2; omega
theorem stp_own {F : Nat → Prop} {tb : Nat} (hF : F tb) (hc : Chg (fun k => k = tb) W W') : Stp F W F W' := ⟨hc.mono fun k e => by rw [e]; exact hF, fun _ h => .inl h⟩
theorem Two.set (h : Two w B1 tb1 L1 v1 B2 tb2 K L2 v2 W) (hN : K.length ≤ 3518437208882) (key : Nm) (A : Option Addr) (c m : Nat) (lv : List Vr) (hm : lv.length = m) (hv : Vs W 0 W.heap.size A lv) (hok : okR (key, lv)) (hK : withR K (key, lv) = K') :
    Calls Tryz.prog 21 #[.pointer (some ⟨tb2, 0, none⟩), .agg #[.string key, .slice A m c]] W (fun e w' => e = .returned (.int .i64 0) ∧ Hid (Two w B1 tb1 L1 v1 B2 tb2 K' L2 v2 w')) := by
  obtain ⟨q1, q2, F1, ps1, F2, ps2, hp, a1, a2, o2, a3, a4, a5, a6⟩ := h
  refine (o2.set hN key A c m lv hm hv hok).mono ?_
  rintro e w' ⟨rfl, hx⟩
  obtain ⟨F2', o2', hs⟩ := hx.out
  rw [hK] at o2'
  exact ⟨rfl, Lib.hid (Two.step q1 q2 hp a1 a2 a3 (Nat.le_trans (a3 _ o2.own) (Nat.le_of_lt (o2.lt o2.own))) a4 a5 a6 o2' hs)⟩
theorem Two.hash2 (h : Two w B1 tb1 L1 v1 B2 tb2 K L2 v2 W) (hN : K.length ≤ 3518437208882) :
    Calls Tryz.prog 11 #[.pointer (some ⟨tb2, 0, none⟩), .slice none 0 0] W (fun e w' => e = .returned (.int .u64 (hashF K [])) ∧ Hid (Two w B1 tb1 L1 v1 B2 tb2 K L2 v2 w')) := by
  obtain ⟨q1, q2, F1, ps1, F2, ps2, hp, a1, a2, o2, a3, a4, a5, a6⟩ := h
  refine (o2.hash hN none 0 0 [] rfl (by omega) ns_nil).mono ?_
  rintro e w' ⟨rfl, hx⟩
  exact ⟨rfl, Lib.hid (Two.step q1 q2 hp a1 a2 a3 (Nat.le_trans (a3 _ o2.own) (Nat.le_of_lt (o2.lt o2.own))) a4 a5 a6 hx.out.1 (stp_own o2.own hx.out.2))⟩
/-- The first tree's own block is turned. -/
theorem Two.first (q1 : w.heap.size ≤ B1) (q2 : B1 ≤ B2) {F1 F2 : Nat → Prop} {ps1 ps2 : List Pr} (hp : Pair F1 w B1 W tb1 L1 v1 ps1) (a1 : ∀ k, F1 k → k < B2) (a2 : ∀ g, v1.ownBlock = some g → g < B2) (o2 : On F2 w W tb2 K) (a3 : ∀ k, F2 k → B2 ≤ k) (a4 : ps2.map Prod.fst = L2) (a5 : RowX B2 w.heap.size W v2 ps2) (a6 : ∀ g, v2.ownBlock = some g → ¬ F2 g)
    (o1 : On F1 w W' tb1 L1) (hc : Chg (fun k => k = tb1) W W') : Two w B1 tb1 L1 v1 B2 tb2 K L2 v2 W' := by
  have ht := a1 _ hp.1.own
  have hw : ∀ k, k = tb1 → w.heap.size ≤ k := fun k e => by rw [e]; exact o1.2.2 _ o1.own
  exact ⟨q1, q2, F1, ps1, F2, ps2, hp.own o1 hc, a1, a2, o2.chg hc (fun k hk e => by have := a3 k hk; omega) hw, a3, a4, a5.keep (fun g hg => hc.block g (a5.lt g hg).2 (fun e => by have := (a5.lt g hg).1; omega)) (fun k hk => hc.block k (Nat.lt_of_lt_of_le hk hp.1.old.size) fun e => by have := hw k e; omega), a6⟩
theorem Two.hash1 (h : Two w B1 tb1 L1 v1 B2 tb2 K L2 v2 W) (hN : L1.length ≤ 3518437208882) :
    Calls Tryz.prog 11 #[.pointer (some ⟨tb1, 0, none⟩), .slice none 0 0] W (fun e w' => e = .returned (.int .u64 (hashF L1 [])) ∧ Hid (Two w B1 tb1 L1 v1 B2 tb2 K L2 v2 w')) := by
  obtain ⟨q1, q2, F1, ps1, F2, ps2, hp, a1, a2, o2, a3, a4, a5, a6⟩ := h
  refine (hp.1.hash hN none 0 0 [] rfl (by omega) ns_nil).mono ?_
  rintro e w' ⟨rfl, hx⟩
  exact ⟨rfl, Lib.hid (Two.first q1 q2 hp a1 a2 o2 a3 a4 a5 a6 hx.out.1 hx.out.2)⟩
/-- The first tree's hashes beneath a path. -/
theorem Two.kids1 (h : Two w B1 tb1 L1 v1 B2 tb2 K L2 v2 W) (hN : L1.length ≤ 3518437208882) (A : Option Addr) (c n : Nat) (p : List Int) (hn : p.length = n) (hbig : n ≤ 140737488355328) (hr : Ns .i64 W W.heap.size A p) :
    Calls Tryz.prog 14 #[.pointer (some ⟨tb1, 0, none⟩), .slice A n c] W (fun e w' => ∃ A m c, e = .returned (.slice A m c) ∧ Hid ((kidsF L1 p).length = m ∧ Ns .u64 w' w'.heap.size A (kidsF L1 p) ∧ (∀ a, 0 < m → A = some a → a.block ≠ tb2) ∧ Two w B1 tb1 L1 v1 B2 tb2 K L2 v2 w' ∧ Chg (fun k => k = tb1) W w')) := by
  obtain ⟨q1, q2, F1, ps1, F2, ps2, hp, a1, a2, o2, a3, a4, a5, a6⟩ := h
  refine (hp.1.kids hN A c n p hn hbig hr).mono ?_
  rintro e w' ⟨A', m, c', rfl, hx⟩
  obtain ⟨p1, p2, p3, p4, p5, p6⟩ := hx.out
  exact ⟨A', m, c', rfl, Lib.hid ⟨p1, p3, (fun a h0 ha e => by have := p4 a h0 ha; have := o2.lt o2.own; omega), Two.first q1 q2 hp a1 a2 o2 a3 a4 a5 a6 p5 p6, p6⟩⟩
/-- The second's, with the first's at hand. -/
theorem Two.kids2 (h : Two w B1 tb1 L1 v1 B2 tb2 K L2 v2 W) (hN : K.length ≤ 3518437208882) (A0 : Option Addr) (zs : List Int) (h0 : Ns .u64 W W.heap.size A0 zs) (hne : ∀ a, 0 < zs.length → A0 = some a → a.block ≠ tb2) (A : Option Addr) (c n : Nat) (p : List Int) (hn : p.length = n) (hbig : n ≤ 140737488355328) (hr : Ns .i64 W W.heap.size A p) :
    Calls Tryz.prog 14 #[.pointer (some ⟨tb2, 0, none⟩), .slice A n c] W (fun e w' => ∃ A m c, e = .returned (.slice A m c) ∧ Hid ((kidsF K p).length = m ∧ Ns .u64 w' w'.heap.size A (kidsF K p) ∧ Ns .u64 w' w'.heap.size A0 zs ∧ Two w B1 tb1 L1 v1 B2 tb2 K L2 v2 w' ∧ Chg (fun k => k = tb2) W w')) := by
  obtain ⟨q1, q2, F1, ps1, F2, ps2, hp, a1, a2, o2, a3, a4, a5, a6⟩ := h
  refine (o2.kids hN A c n p hn hbig hr).mono ?_
  rintro e w' ⟨A', m, c', rfl, hx⟩
  obtain ⟨p1, p2, p3, p4, p5, p6⟩ := hx.out
  refine ⟨A', m, c', rfl, Lib.hid ⟨p1, p3, fun hz => ?_, Two.step q1 q2 hp a1 a2 a3 (Nat.le_trans (a3 _ o2.own) (Nat.le_of_lt (o2.lt o2.own))) a4 a5 a6 p5 (stp_own o2.own p6), p6⟩⟩
  obtain ⟨b, off, hA, hl, hc⟩ := h0 hz
  have hb := hne _ hz hA
  exact ⟨b, off, hA, Nat.lt_of_lt_of_le hl p6.size, fun j hj => (World.cell?_of_block (p6.block b hl hb)).trans (hc j hj)⟩
theorem Two.recs1 (h : Two w B1 tb1 L1 v1 B2 tb2 K L2 v2 W) (hN : L1.length ≤ 3518437208882) :
    Calls Tryz.prog 17 #[.pointer (some ⟨tb1, 0, none⟩), .slice none 0 0] W (fun e w' => ∃ A n c, e = .returned (.slice A n c) ∧ Hid (L1.length = n ∧ Rs w' 0 w'.heap.size A L1 ∧ Two w B1 tb1 L1 v1 B2 tb2 K L2 v2 w')) := by
  have hT := h
  obtain ⟨q1, q2, F1, ps1, F2, ps2, hp, a1, a2, o2, a3, a4, a5, a6⟩ := h
  refine (hp.1.recs hN none 0 0 [] rfl (by omega) ns_nil).mono ?_
  rintro e w' ⟨A, n, c, ps, rfl, hx⟩
  obtain ⟨p1, p2, p3, p4, p5, p6⟩ := hx.out
  have hL : recsF L1 [] = L1 := by unfold recsF; rw [if_pos (by decide), beneath_nil]
  rw [hL] at p1 p2
  refine ⟨A, n, c, rfl, Lib.hid ⟨p2.symm, ?_, hT.below p6⟩⟩
  rw [← p1]
  exact p4.rs.less (Nat.zero_le _)
theorem Two.recs2 (h : Two w B1 tb1 L1 v1 B2 tb2 K L2 v2 W) (hN : K.length ≤ 3518437208882) :
    Calls Tryz.prog 17 #[.pointer (some ⟨tb2, 0, none⟩), .slice none 0 0] W (fun e w' => ∃ A n c, e = .returned (.slice A n c) ∧ Hid (K.length = n ∧ Rs w' 0 w'.heap.size A K ∧ Two w B1 tb1 L1 v1 B2 tb2 K L2 v2 w' ∧ Below W.heap.size W w')) := by
  have hT := h
  obtain ⟨q1, q2, F1, ps1, F2, ps2, hp, a1, a2, o2, a3, a4, a5, a6⟩ := h
  refine (o2.recs hN none 0 0 [] rfl (by omega) ns_nil).mono ?_
  rintro e w' ⟨A, n, c, ps, rfl, hx⟩
  obtain ⟨p1, p2, p3, p4, p5, p6⟩ := hx.out
  have hL : recsF K [] = K := by unfold recsF; rw [if_pos (by decide), beneath_nil]
  rw [hL] at p1 p2
  refine ⟨A, n, c, rfl, Lib.hid ⟨p2.symm, ?_, hT.below p6, p6⟩⟩
  rw [← p1]
  exact p4.rs.less (Nat.zero_le _)
theorem Two.drewN (h : Two w B1 tb1 L1 v1 B2 tb2 K L2 v2 W) (q : Nat) : Two w B1 tb1 L1 v1 B2 tb2 K L2 v2 (W.drewN q) := h.below ⟨rfl, rfl, rfl, Nat.le_refl _, fun _ _ => rfl⟩
theorem Two.lt1 (h : Two w B1 tb1 L1 v1 B2 tb2 K L2 v2 W) : tb1 < W.heap.size ∧ tb2 < W.heap.size := by
  obtain ⟨q1, q2, F1, ps1, F2, ps2, hp, a1, a2, o2, _⟩ := h
  exact ⟨hp.1.lt hp.1.own, o2.lt o2.own⟩
theorem Two.ok1 (h : Two w B1 tb1 L1 v1 B2 tb2 K L2 v2 W) : okAll L1 := by
  obtain ⟨q1, q2, F1, ps1, F2, ps2, hp, _⟩ := h
  exact hp.1.okA
theorem Two.ok2 (h : Two w B1 tb1 L1 v1 B2 tb2 K L2 v2 W) : okAll K := by
  obtain ⟨q1, q2, F1, ps1, F2, ps2, hp, a1, a2, o2, _⟩ := h
  exact o2.okA
end
end Tree
end Go.Proofs.YtbaclinjimfncaaGreat
