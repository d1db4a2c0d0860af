/-
  The document's New, Append, Cut, Rename, Remove, Sync, Wipe (layer 7).
-/
import Derived.Test.YtdcppjpjlhbanaaDiskDocDo
namespace Go.Proofs.Ytdcppjpjlhbanaa
namespace Disk
open Go.RowKit Blk
attribute [local go_sem ↓] Go.wp_at_zero Go.wp_at_succ
section
variable {F : Nat → Prop} {w : World} {mb N : Nat} {P : Pd}
def roomD (z : Int) : Int := min (max z 0) 1073741824
theorem doc_new (w : World) (z : Int) : Calls Try.prog 11 #[.int .i64 z] w (fun e w' => ∃ mb, e = .returned (.pointer (some ⟨mb, 0, none⟩)) ∧ Hid (RD (fun j => w.heap.size ≤ j ∧ j < w'.heap.size) w' mb ⟨roomD z, [], []⟩ ∧ Below w.heap.size w w')) := by
  obtain ⟨mb, hmb⟩ : ∃ b, w.heap.size = b := ⟨_, rfl⟩
  have key : ∀ z', roomD z = z' → Hid (RD (fun j => w.heap.size ≤ j ∧ j < (w.alloc (.cells #[.int .i64 z', .slice none 0 0, .slice none 0 0] 36)).heap.size) (w.alloc (.cells #[.int .i64 z', .slice none 0 0, .slice none 0 0] 36)) mb ⟨roomD z, [], []⟩ ∧ Below w.heap.size w (w.alloc (.cells #[.int .i64 z', .slice none 0 0, .slice none 0 0] 36))) := fun z' hz => Lib.hid (by
    subst hmb
    refine ⟨⟨none, 0, 0, [], none, 0, 0, [], ?_, ⟨Fr.nil _ _, rfl⟩, ⟨⟨rfl, World.ownsRow_nil _ _ _ _, (fun g hg => by cases hg), by simp⟩, rfl⟩, ⟨Nat.le_refl _, by simp⟩, fun j hj => hj.2⟩, (Below.refl _ w).alloc (Nat.le_refl _) _⟩
    rw [← hz]
    exact heap_alloc_new w _)
  by_cases h0 : z < 0
  · have hr : roomD z = 0 := by unfold roomD; omega
    have HK := key 0 hr
    have d0 : decide (z < 0) = true := decide_eq_true h0
    obtain ⟨U, hU⟩ : ∃ V, w.alloc (.cells #[.int .i64 0, .slice none 0 0, .slice none 0 0] 36) = V := ⟨_, rfl⟩
    rw [hU] at HK
    clear key hr h0
    go_enter Try.func11, Try.ntmps11
    go_wp2_with fail
    go_ret
    exact ⟨mb, rfl, HK⟩
  · have d0 : decide (z < 0) = false := decide_eq_false h0
    by_cases h1 : 1073741824 < z
    · have hr : roomD z = 1073741824 := by unfold roomD; omega
      have HK := key 1073741824 hr
      have d1 : decide (1073741824 < z) = true := decide_eq_true h1
      obtain ⟨U, hU⟩ : ∃ V, w.alloc (.cells #[.int .i64 1073741824, .slice none 0 0, .slice none 0 0] 36) = V := ⟨_, rfl⟩
      rw [hU] at HK
      clear key hr h0 h1
      go_enter Try.func11, Try.ntmps11
      go_wp2_with fail
      go_ret
      exact ⟨mb, rfl, HK⟩
    · have hr : roomD z = z := by unfold roomD; omega
      have HK := key z hr
      have d1 : decide (1073741824 < z) = false := decide_eq_false h1
      obtain ⟨U, hU⟩ : ∃ V, w.alloc (.cells #[.int .i64 z, .slice none 0 0, .slice none 0 0] 36) = V := ⟨_, rfl⟩
      rw [hU] at HK
      clear key hr h0 h1
      go_enter Try.func11, Try.ntmps11
      go_wp2_with fail
      go_ret
      exact ⟨mb, rfl, HK⟩
/-- What a change's call tells. -/
def Did (F : Nat → Prop) (w : World) (mb : Nat) (P : Pd) (C : Cp) (e : Ending) (w' : World) : Prop :=
  ∃ cd, e = .returned (.int .i64 cd) ∧ Hid (∃ F', cd = P.code C ∧ RD F' w' mb (P.push C) ∧ Stp F w F' w')
set_option maxRecDepth 100000 in
theorem doc_append (h : RD F w mb P) (hok : P.ok N) (hN : N < 1900000000000) (s : Nm) (d : List Int) (kx : Nat) (hkx : d.length = kx) (xA : Option Addr) (xc : Nat) (hx : Ns .u8 w w.heap.size xA d) (hd : ∀ z ∈ d, 0 ≤ z ∧ z ≤ 255) (hkb : kx ≤ 140737488355327) :
    Calls Try.prog 26 #[.pointer (some ⟨mb, 0, none⟩), .string s, .slice xA kx xc] w (Did F w mb P ⟨1, s, ⟨#[]⟩, d, 0⟩) := by
  have H1 := Lib.hid (doc_do h hok hN 1 0 (.inl rfl) s ⟨#[]⟩ d kx hkx xA xc hx hd (fun e => absurd rfl e) hkb)
  clear h hok hx hkx hd
  go_enter Try.func26, Try.ntmps26
  go_wp2_with fail
  refine H1.out.mono ?_
  rintro e w2 ⟨cd, rfl, h2⟩
  go_wp2_with fail
  go_ret
  exact ⟨cd, rfl, h2⟩
set_option maxRecDepth 100000 in
theorem doc_cut (h : RD F w mb P) (hok : P.ok N) (hN : N < 1900000000000) (s : Nm) (n : Int) :
    Calls Try.prog 28 #[.pointer (some ⟨mb, 0, none⟩), .string s, .int .i64 n] w (Did F w mb P ⟨2, s, ⟨#[]⟩, [], n⟩) := by
  have H1 := Lib.hid (doc_do h hok hN 2 n (.inr (.inl rfl)) s ⟨#[]⟩ [] 0 rfl none 0 (Ns.nil _) (by simp) (fun _ => rfl) (by omega))
  clear h hok
  go_enter Try.func28, Try.ntmps28
  go_wp2_with fail
  refine H1.out.mono ?_
  rintro e w2 ⟨cd, rfl, h2⟩
  go_wp2_with fail
  go_ret
  exact ⟨cd, rfl, h2⟩
set_option maxRecDepth 100000 in
theorem doc_rename (h : RD F w mb P) (hok : P.ok N) (hN : N < 1900000000000) (s t : Nm) :
    Calls Try.prog 29 #[.pointer (some ⟨mb, 0, none⟩), .string s, .string t] w (Did F w mb P ⟨3, s, t, [], 0⟩) := by
  have H1 := Lib.hid (doc_do h hok hN 3 0 (.inr (.inr (.inl rfl))) s t [] 0 rfl none 0 (Ns.nil _) (by simp) (fun _ => rfl) (by omega))
  clear h hok
  go_enter Try.func29, Try.ntmps29
  go_wp2_with fail
  refine H1.out.mono ?_
  rintro e w2 ⟨cd, rfl, h2⟩
  go_wp2_with fail
  go_ret
  exact ⟨cd, rfl, h2⟩
set_option maxRecDepth 100000 in
theorem doc_remove (h : RD F w mb P) (hok : P.ok N) (hN : N < 1900000000000) (s : Nm) :
    Calls Try.prog 30 #[.pointer (some ⟨mb, 0, none⟩), .string s] w (Did F w mb P ⟨4, s, ⟨#[]⟩, [], 0⟩) := by
  have H1 := Lib.hid (doc_do h hok hN 4 0 (.inr (.inr (.inr rfl))) s ⟨#[]⟩ [] 0 rfl none 0 (Ns.nil _) (by simp) (fun _ => rfl) (by omega))
  clear h hok
  go_enter Try.func30, Try.ntmps30
  go_wp2_with fail
  refine H1.out.mono ?_
  rintro e w2 ⟨cd, rfl, h2⟩
  go_wp2_with fail
  go_ret
  exact ⟨cd, rfl, h2⟩
/-- Two cells of the disk are set: new files, and nothing since. -/
theorem RD.reset (h : RD F w mb P) {w1 : World} (hb : Below w.heap.size w w1) {A : Option Addr} {n c : Nat} {l : Rl} (hl : Fr (more F w) w1 A n c l) :
    ∃ X, (w1.setCell ⟨mb, 1, none⟩ (.slice A n c)) = X ∧ (w1.cell? ⟨mb, 1, none⟩).isSome = true ∧ w1.frozen? ⟨mb, 1, none⟩ = false ∧ (X.cell? ⟨mb, 2, none⟩).isSome = true ∧ X.frozen? ⟨mb, 2, none⟩ = false ∧
    Hid (RD (fun j => F j ∨ (w.heap.size ≤ j ∧ j < w1.heap.size)) (X.setCell ⟨mb, 2, none⟩ (.slice none 0 0)) mb { P with safe := fsR l, q := [] } ∧ Stp F w (fun j => F j ∨ (w.heap.size ≤ j ∧ j < w1.heap.size)) (X.setCell ⟨mb, 2, none⟩ (.slice none 0 0))) := by
  obtain ⟨As, ns, cs, ls, At, nt, ct, ts, h1, h2, h3, h4, h5⟩ := h
  have hB := h1.same (hb.block mb h1.lt)
  have g1 := gset w1 mb 1 (.slice A n c)
  have B1 := hB.set 1 (.slice A n c)
  obtain ⟨X, hX⟩ : ∃ V, w1.setCell ⟨mb, 1, none⟩ (.slice A n c) = V := ⟨_, rfl⟩
  rw [hX] at g1 B1
  have g2 := gset X mb 2 (.slice none 0 0)
  have B2 := B1.set 2 (.slice none 0 0)
  obtain ⟨Y, hY⟩ : ∃ V, X.setCell ⟨mb, 2, none⟩ (.slice none 0 0) = V := ⟨_, rfl⟩
  rw [hY] at g2 B2
  have gg := grown_trans_one g1 g2
  have kf : ∀ {y : Df}, FlOK (more F w) w1 y → FlOK (fun j => F j ∨ (w.heap.size ≤ j ∧ j < w1.heap.size)) Y y := fun {y} hy =>
    ⟨own_keep hy.1 fun g hg => gg.block g (hy.1.lt g hg).2 fun e => own_ne hy.1 hB (by decide) (by rw [hg, e]), fun g hg => (hy.2.1 g hg).imp id fun q => ⟨q, (hy.1.lt g hg).2⟩, hy.2.2⟩
  refine ⟨X, hX, by rw [hB.cell]; rfl, hB.frozen 1, by rw [B1.cell]; rfl, B1.frozen 2, Lib.hid ?_⟩
  rw [hY]
  refine ⟨⟨A, n, c, l, none, 0, 0, [], B2, ⟨⟨hl.1, own_keep hl.2.1 fun g hg => gg.block g (hl.2.1.lt g hg).2 fun e => own_ne hl.2.1 hB (by decide) (by rw [hg, e]), fun g hg => (hl.2.2.1 g hg).imp id fun q => ⟨q, (hl.2.1.lt g hg).2⟩, fun x hx => kf (hl.2.2.2.1 x hx), hl.2.2.2.2⟩, rfl⟩, ⟨⟨rfl, World.ownsRow_nil _ _ _ _, (fun g hg => by cases hg), by simp⟩, rfl⟩, .inl h4, fun j hj => ?_⟩, ?_, fun j hj => hj.imp id fun q => q.1⟩
  · have := gg.size
    have := hb.size
    rcases hj with hj | hj
    · have := h5 j hj
      omega
    · omega
  · exact (Chg.of_below hb).trans (Chg.of_grown gg fun g hg => by injection hg with hg; subst hg; exact h4) fun _ => .inl
theorem RD.cells (h : RD F w mb P) : (w.cell? ⟨mb, 1, none⟩).isSome = true ∧ (w.cell? ⟨mb, 2, none⟩).isSome = true ∧ w.frozen? ⟨mb, 1, none⟩ = false := by
  obtain ⟨As, ns, cs, ls, At, nt, ct, ts, h1, h2, h3, h4, h5⟩ := h
  exact ⟨by rw [h1.cell]; rfl, by rw [h1.cell]; rfl, h1.frozen 1⟩
set_option maxRecDepth 100000 in
theorem doc_sync (h : RD F w mb P) (hok : P.ok N) (hN : N ≤ 1900000000000) : Calls Try.prog 31 #[.pointer (some ⟨mb, 0, none⟩)] w (fun e w' => e = .returned (.tuple #[]) ∧ Hid (∃ F', RD F' w' mb P.sync ∧ Stp F w F' w')) := by
  have H1 := Lib.hid (doc_files h hok hN)
  have HH := Lib.hid h
  clear h hok
  go_enter Try.func31, Try.ntmps31
  go_wp2_with fail
  refine H1.out.mono ?_
  rintro e w2 ⟨A, n, c, rfl, h2⟩
  have h2' := h2.out
  obtain ⟨l, hl1, hl2, hl3⟩ := h2'
  obtain ⟨X, hX, c1, f1, c2, f2, hR⟩ := HH.out.reset hl3 hl1
  obtain ⟨v1, c1⟩ := Option.isSome_iff_exists.1 c1
  obtain ⟨v2, c2⟩ := Option.isSome_iff_exists.1 c2
  rw [hl2] at hR
  clear hl1 hl2 hl3 h2
  go_wp2_with fail
  exact bodyPost_end (v := .tuple #[]) (results_none rfl _ _ _) rfl ⟨rfl, Lib.hid ⟨_, hR.out⟩⟩
set_option maxRecDepth 100000 in
theorem doc_wipe (h : RD F w mb P) : Calls Try.prog 34 #[.pointer (some ⟨mb, 0, none⟩)] w (fun e w' => e = .returned (.tuple #[]) ∧ Hid (∃ F', RD F' w' mb P.wipe ∧ Stp F w F' w')) := by
  obtain ⟨X, hX, c1, f1, c2, f2, hR⟩ := h.reset (Below.refl _ w) (A := none) (n := 0) (c := 0) (l := []) (Fr.nil _ _)
  obtain ⟨v1, c1⟩ := Option.isSome_iff_exists.1 c1
  obtain ⟨v2, c2⟩ := Option.isSome_iff_exists.1 c2
  clear h
  go_enter Try.func34, Try.ntmps34
  go_wp2_with fail
  exact bodyPost_end (v := .tuple #[]) (results_none rfl _ _ _) rfl ⟨rfl, Lib.hid ⟨_, hR.out⟩⟩
end
end Disk
end Go.Proofs.Ytdcppjpjlhbanaa
