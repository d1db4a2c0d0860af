/-
  disk: Loose, Used, Sync, Wipe (layer 7).
-/
import Derived.Test.YtdcppjpjlhbanaaDiskTail
namespace Go.Proofs.Ytdcppjpjlhbanaa
namespace Disk
open Go.RowKit Blk Go.Maps
attribute [local go_sem ↓] Go.wp_at_zero Go.wp_at_succ
section
variable {F : Nat → Prop} {own : Nat → Nat} {w : World} {db N : Nat} {room : Int} {es : Es} {r : List Un}
theorem loose_any (h : DK F own N w db room es r) (n : Nat) (hn : r.length = n) : Calls Try.prog 13 #[hd db] w (fun e w' => e = .returned (.int .i64 n) ∧ w' = w) := by
  obtain ⟨mb, A, n', c, hp⟩ := h.parts
  obtain rfl : n' = n := by rw [← hp.2.1.1, hn]
  have c3 := (hp.1.1.cell 3).trans rfl
  clear hp h hn
  go_enter Try.func13, Try.ntmps13
  go_wp2_with fail
  go_ret
  exact ⟨rfl, rfl⟩
theorem used_any (h : DK F own N w db room es r) : Calls Try.prog 14 #[hd db] w (fun e w' => e = .returned (.int .i64 (used (fsE es))) ∧ w' = w) := by
  obtain ⟨mb, A, n', c, hp⟩ := h.parts
  have c3 := (hp.1.1.cell 1).trans rfl
  clear hp h
  go_enter Try.func14, Try.ntmps14
  go_wp2_with fail
  go_ret
  exact ⟨rfl, rfl⟩
/-- Nothing is loose any more. -/
theorem DP.sync {mb n c : Nat} {A : Option Addr} (hp : DP F own N w db room es r mb A n c) : DK F own N (w.setCell ⟨db, 3, none⟩ (.slice none 0 0)) db room es [] ∧ Chg F w (w.setCell ⟨db, 3, none⟩ (.slice none 0 0)) := by
  have hg := gset w db 3 (.slice none 0 0)
  have hne := hp.1.ne
  obtain ⟨h1, _, ⟨h4, _⟩, _, h7, h8, h9, _, h11⟩ := hp
  refine ⟨⟨mb, none, 0, 0, ⟨h1.1.set 3 _, h1.2.same (hg.block mb h1.2.lt fun e => hne (by injection e with e; exact e.symm))⟩, ⟨rfl, World.ownsRow_nil _ _ _ _⟩, ⟨fun x hx => (h4 x hx).grow (fun _ h => h) (fun _ _ => rfl) fun g hg' => ?_, fun e he => by cases he⟩, (fun x _ _ e he => by cases he), ⟨h7.1.good, h7.2.1.head, h7.2.2.1, Nat.zero_le _, h7.2.2.2.2⟩, h8, h9, (fun g hg' => by cases hg'), fun j hj => Nat.lt_of_lt_of_le (h11 j hj) hg.size⟩, Chg.of_grown hg fun g hg' => by injection hg' with hg'; subst hg'; exact h8⟩
  have hx' := h4 x hx
  refine hg.block g ?_ fun e => rok_ne hx' h1.1 (by decide) (by injection e with e; rw [hg', e])
  obtain ⟨_, _, _, q⟩ := hx'
  rcases q with ⟨q, _⟩ | ⟨g2, cur, q1, q2, _⟩
  · rw [q] at hg'; cases hg'
  · rw [q1] at hg'
    injection hg' with hg'
    injection hg' with hg'
    subst hg'
    exact h11 _ q2
theorem sync_any (h : DK F own N w db room es r) : Calls Try.prog 20 #[hd db] w (fun e w' => e = .returned (.tuple #[]) ∧ Hid (DK F own N w' db room es [] ∧ Chg F w w')) := by
  obtain ⟨mb, A, n', c, hp⟩ := h.parts
  have c3 := (hp.1.1.cell 3).trans rfl
  have f3 := hp.1.1.frozen 3
  have HE := Lib.hid hp.sync
  clear hp h
  go_enter Try.func20, Try.ntmps20
  go_wp2_with fail
  exact bodyPost_end (v := .tuple #[]) (results_none rfl _ _ _) rfl ⟨rfl, HE⟩
theorem good_nil (N : Nat) : Good N [] := ⟨Srt.nil, by simp, by simp, by simp, by simp [used, mapV], by simp⟩
set_option maxRecDepth 100000 in
theorem wipe_any (h : DK F own N w db room es r) (hr : 0 ≤ room) : Calls Try.prog 33 #[hd db] w (fun e w' => e = .returned (.tuple #[]) ∧ ∃ F', Hid (DK F' own N w' db room [] [] ∧ Chg F w w' ∧ ∀ j, F' j → F j ∨ w.heap.size ≤ j)) := by
  have hmm := @run_makeMap Try.prog
  obtain ⟨mb, A, n', c, hp⟩ := h.parts
  obtain ⟨h1, _, _, _, h7, h8, h9, _, h11⟩ := hp
  obtain ⟨U, hU⟩ : ∃ V, w.alloc (.map #[] 0) = V := ⟨_, rfl⟩
  have bU : Below w.heap.size w U := by rw [← hU]; exact (Below.refl _ w).alloc (Nat.le_refl _) _
  have hM : MI U w.heap.size [] := by rw [← hU]; exact mi_made w
  have hD := h1.1.same (bU.block db h1.1.lt)
  obtain ⟨nm, hnm⟩ : ∃ b, w.heap.size = b := ⟨_, rfl⟩
  rw [hnm] at hM
  have c2 := (hD.cell 2).trans rfl
  have f2 := hD.frozen 2
  have g2 := gset U db 2 (.map (some nm))
  have D2 := hD.set 2 (.map (some nm))
  obtain ⟨X, hX⟩ : ∃ V, U.setCell ⟨db, 2, none⟩ (.map (some nm)) = V := ⟨_, rfl⟩
  rw [hX] at g2 D2
  simp only [List.set_cons_zero, List.set_cons_succ] at D2
  have c1 := (D2.cell 1).trans rfl
  have f1 := D2.frozen 1
  have g1 := gset X db 1 (.int .i64 0)
  have D1 := D2.set 1 (.int .i64 0)
  obtain ⟨Y, hY⟩ : ∃ V, X.setCell ⟨db, 1, none⟩ (.int .i64 0) = V := ⟨_, rfl⟩
  rw [hY] at g1 D1
  simp only [List.set_cons_zero, List.set_cons_succ] at D1
  have c3 := (D1.cell 3).trans rfl
  have f3 := D1.frozen 3
  have g3 := gset Y db 3 (.slice none 0 0)
  have D3 := D1.set 3 (.slice none 0 0)
  obtain ⟨Z, hZ⟩ : ∃ V, Y.setCell ⟨db, 3, none⟩ (.slice none 0 0) = V := ⟨_, rfl⟩
  rw [hZ] at g3 D3
  simp only [List.set_cons_zero, List.set_cons_succ] at D3
  have hmdb : nm ≠ db := fun e => by have := h1.1.lt; omega
  have HE : Hid (DK (fun j => F j ∨ (w.heap.size ≤ j ∧ j < Z.heap.size)) own N Z db room [] [] ∧ Chg F w Z ∧ ∀ j, (F j ∨ (w.heap.size ≤ j ∧ j < Z.heap.size)) → F j ∨ w.heap.size ≤ j) := Lib.hid (by
    have gg := grown_trans_one (grown_trans_one g2 g1) g3
    have hml := hM.lt
    have hZs := gg.size
    refine ⟨⟨nm, none, 0, 0, ⟨D3, hM.same (gg.block nm hml fun e => hmdb (by injection e))⟩, ⟨rfl, World.ownsRow_nil _ _ _ _⟩, ⟨(fun x hx => by cases hx), fun e he => by cases he⟩, (fun x hx => by cases hx), ⟨good_nil N, hr, h7.2.2.1, Nat.zero_le _, h7.2.2.2.2⟩, .inl h8, .inr ⟨by omega, by omega⟩, (fun g hg' => by cases hg'), fun j hj => ?_⟩, ?_, fun j hj => hj.imp id fun q => q.1⟩
    · rcases hj with hj | hj
      · have := h11 j hj; have := bU.size; omega
      · exact hj.2
    · exact (Chg.of_below bU).trans (Chg.of_grown gg fun g hg' => by injection hg' with hg'; subst hg'; exact h8) fun _ => .inl)
  clear h h1 h7 h8 h9 h11 bU hM hD g2 D2 g1 D1 g3 D3 hmdb
  go_enter Try.func33, Try.ntmps33
  go_wp2_with fail
  exact bodyPost_end (v := .tuple #[]) (results_none rfl _ _ _) rfl ⟨rfl, _, HE⟩
end
end Disk
end Go.Proofs.Ytdcppjpjlhbanaa
