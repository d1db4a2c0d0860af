/-
  Two disks of the program's and one of the document's in one world; what a crash leaves of one change more (layer 7).
-/
import Derived.Test.YtdcppjpjlhbanaaDiskLaw
namespace Go.Proofs.Ytdcppjpjlhbanaa
namespace Disk
open Go.RowKit Blk
/-- The disks db, ub of the program's and mb of the document's; the blocks X are held beside them. -/
def Tri (X : Nat → Prop) (w V : World) (db ub mb N M : Nat) (P U Q : Pd) : Prop :=
  ∃ F2, Bo (fun j => F2 j ∨ X j) w V db mb N M P Q ∧ PD F2 V ub N U ∧ U.ok N ∧ (∀ j, F2 j → w.heap.size ≤ j) ∧ ∀ j, X j → ¬ F2 j
section
variable {X Y : Nat → Prop} {w V V' : World} {db ub mb N M N' M' : Nat} {P U Q : Pd}
theorem Tri.old (h : Tri X w V db ub mb N M P U Q) : Below w.heap.size w V := by
  obtain ⟨F2, h1, _⟩ := h
  exact h1.old
theorem Tri.swap (h : Tri X w V db ub mb N M P U Q) : Tri X w V ub db mb N M U P Q := by
  obtain ⟨F2, ⟨F, G, h1, h2, h3, h4, h5, h6, h7, h8⟩, k1, k2, k3, k4⟩ := h
  refine ⟨F, ⟨F2, G, k1, h2, ⟨k2, h3.2⟩, h4, k3, h6, fun j hj => (h8 j (.inl hj)).2.2, fun j hj => ?_⟩, h1, h3.1, h5, fun j hj => (h8 j (.inr hj)).2.1⟩
  rcases hj with hj | hj
  · exact ⟨h1.lt j hj, fun e => (h8 j (.inl e)).2.1 hj, h7 j hj⟩
  · exact ⟨(h8 j (.inr hj)).1, k4 j hj, (h8 j (.inr hj)).2.2⟩
theorem Tri.below (h : Tri X w V db ub mb N M P U Q) (hb : Below V.heap.size V V') : Tri X w V' db ub mb N M P U Q := by
  obtain ⟨F2, h1, k1, k2⟩ := h
  exact ⟨F2, h1.below hb, k1.below hb, k2⟩
theorem Tri.mono (h : Tri X w V db ub mb N M P U Q) (hN : N ≤ N') (hM : M ≤ M') (hN' : N' ≤ 10000000000000) : Tri X w V db ub mb N' M' P U Q := by
  obtain ⟨F2, h1, k1, k2, k3⟩ := h
  exact ⟨F2, h1.mono hN hM hN', k1.mono hN hN', k2.mono hN, k3⟩
theorem Tri.less (h : Tri X w V db ub mb N M P U Q) (hY : ∀ j, Y j → X j) : Tri Y w V db ub mb N M P U Q := by
  obtain ⟨F2, h1, k1, k2, k3, k4⟩ := h
  exact ⟨F2, h1.less fun j hj => hj.imp id (hY j), k1, k2, k3, fun j hj => k4 j (hY j hj)⟩
theorem Tri.hold (h : Tri X w V db ub mb N M P U Q) (hb : Below V.heap.size V V') : Tri (fun j => X j ∨ (V.heap.size ≤ j ∧ j < V'.heap.size)) w V' db ub mb N M P U Q := by
  obtain ⟨F2, h1, k1, k2, k3, k4⟩ := h
  refine ⟨F2, (h1.hold hb).less fun j hj => ?_, k1.below hb, k2, k3, fun j hj => ?_⟩
  · rcases hj with hj | hj | hj
    · exact .inl (.inl hj)
    · exact .inl (.inr hj)
    · exact .inr hj
  · rcases hj with hj | hj
    · exact k4 j hj
    · exact fun e => by have := k1.lt j e; omega
theorem Tri.step {P' Q' : Pd} {F2 : Nat → Prop} (k1 : PD F2 V ub N U) (k2 : U.ok N) (k3 : ∀ j, F2 j → w.heap.size ≤ j) (k4 : ∀ j, X j → ¬ F2 j) (hb : Bo (fun j => F2 j ∨ X j) w V' db mb N' M' P' Q') (hk : Kept (fun j => F2 j ∨ X j) V V') (hN : N ≤ N') (hN' : N' ≤ 10000000000000) : Tri X w V' db ub mb N' M' P' U Q' ∧ Kept X V V' :=
  ⟨⟨F2, hb, (k1.keep hk.1 fun j hj => hk.2 j (.inl hj)).mono hN hN', k2.mono hN, k3, k4⟩, hk.less fun _ => .inr⟩
theorem Tri.does (h : Tri X w V db ub mb N M P U Q) (hN : N < 1900000000000) (hM : M < 1900000000000) (o : Oq) (k : Nat) (hk : o.d.length = k) (hkb : k ≤ 140737488355327) (A : Option Addr) (c : Nat) (hx : Ns .u8 w w.heap.size A o.d) (hd8 : ∀ z ∈ o.d, 0 ≤ z ∧ z ≤ 255) :
    Calls Try.prog 12 #[hd db, .pointer (some ⟨mb, 0, none⟩), .agg #[.int .i64 o.kd, .string o.s, .string o.t, .slice A k c, .int .i64 o.n, .int .i64 o.torn]] V (fun e w' => ∃ b, e = .returned (.bool b) ∧ Hid (Tri X w w' db ub mb (N + 1) (M + 1) (P.run o) U (Q.run o) ∧ Kept X V w')) := by
  obtain ⟨F2, h1, k1, k2, k3, k4⟩ := h
  refine (does_any h1 hN hM o k hk hkb A c hx hd8).mono ?_
  rintro e w' ⟨b, rfl, hh⟩
  exact ⟨b, rfl, Lib.hid (Tri.step k1 k2 k3 k4 hh.out.2.1 hh.out.2.2 (by omega) (by omega))⟩
theorem Tri.append (h : Tri X w V db ub mb N M P U Q) (hN : N < 10000000000000) (s : Nm) (b : List Int) (kb : Nat) (hkb : b.length = kb) (Ab : Option Addr) (cb : Nat) (hb : Ns .u8 V V.heap.size Ab b) (hb8 : ∀ z ∈ b, 0 ≤ z ∧ z ≤ 255) :
    Calls Try.prog 21 #[hd db, .string s, .slice Ab kb cb] V (fun e w' => ∃ cd, e = .returned (.int .i64 cd) ∧ Hid (Tri X w w' db ub mb (N + 1) M (P.push ⟨1, s, ⟨#[]⟩, b, 0⟩) U Q ∧ Kept X V w')) := by
  obtain ⟨F2, h1, k1, k2, k3, k4⟩ := h
  refine (h1.dod (C := ⟨1, s, ⟨#[]⟩, b, 0⟩) (.inl rfl) hb8 fun _ hp hr => pd_append hp hr hN s b kb hkb Ab cb hb hb8).mono ?_
  rintro e w' ⟨cd, rfl, hh⟩
  exact ⟨cd, rfl, Lib.hid (Tri.step k1 k2 k3 k4 hh.out.2.1 hh.out.2.2 (by omega) (by omega))⟩
theorem Tri.sync (h : Tri X w V db ub mb N M P U Q) (hN : N ≤ 10000000000000) : Calls Try.prog 20 #[hd db] V (fun e w' => e = .returned (.tuple #[]) ∧ Hid (Tri X w w' db ub mb N M P.sync U Q ∧ Kept X V w')) := by
  obtain ⟨F2, h1, k1, k2, k3, k4⟩ := h
  refine h1.sync.mono ?_
  rintro e w' ⟨rfl, hh⟩
  exact ⟨rfl, Lib.hid (Tri.step k1 k2 k3 k4 hh.out.1 hh.out.2 (Nat.le_refl _) hN)⟩
theorem Tri.crash (h : Tri X w V db ub mb N M P U Q) (hN : N ≤ 10000000000000) (keep torn : Int) : Calls Try.prog 22 #[hd db, .int .i64 keep, .int .i64 torn] V (fun e w' => e = .returned (.tuple #[]) ∧ Hid (Tri X w w' db ub mb N M (P.crash keep torn) U Q ∧ Kept X V w')) := by
  obtain ⟨F2, h1, k1, k2, k3, k4⟩ := h
  refine (h1.crash keep torn).mono ?_
  rintro e w' ⟨rfl, hh⟩
  exact ⟨rfl, Lib.hid (Tri.step k1 k2 k3 k4 hh.out.1 hh.out.2 (Nat.le_refl _) hN)⟩
theorem Tri.loose (h : Tri X w V db ub mb N M P U Q) (n : Nat) (hn : P.q.length = n) : Calls Try.prog 13 #[hd db] V (fun e w' => e = .returned (.int .i64 n) ∧ w' = V) := by
  obtain ⟨F2, h1, _⟩ := h
  exact h1.loose n hn
theorem Tri.files (h : Tri X w V db ub mb N M P U Q) (hN : N ≤ 3000000000000) :
    Calls Try.prog 17 #[hd db] V (fun e w' => ∃ A n c, e = .returned (.slice A n c) ∧ Hid (∃ l, Fr (fun j => V.heap.size ≤ j) w' A n c l ∧ fsR l = P.files ∧ Below V.heap.size V w')) := by
  obtain ⟨F2, h1, _⟩ := h
  exact h1.files hN
theorem Tri.oks (h : Tri X w V db ub mb N M P U Q) : P.ok N ∧ U.ok N := by
  obtain ⟨F2, h1, _, h2, _⟩ := h
  exact ⟨h1.oks.1, h2⟩
theorem tri_start {V1 V2 : World} {F F2 G : Nat → Prop} (h1 : PD F V db N P) (hp : P.ok N) (hb : Below w.heap.size w V) (hF : ∀ j, F j → w.heap.size ≤ j) (h2 : PD F2 V1 ub N U) (hu : U.ok N) (hb1 : Below V.heap.size V V1) (hF2 : ∀ j, F2 j → V.heap.size ≤ j) (h3 : RD G V2 mb Q) (hq : Q.ok M) (hb2 : Below V1.heap.size V1 V2) (hG : ∀ j, G j → V1.heap.size ≤ j) : Tri (fun _ => False) w V2 db ub mb N M P U Q := by
  have hb12 : Below V.heap.size V V2 := hb1.trans (hb2.mono hb1.size)
  refine ⟨F2, ⟨F, G, h1.below hb12, h3, ⟨hp, hq⟩, hb.trans (hb12.mono hb.size), hF, fun j hj => Nat.le_trans hb.size (Nat.le_trans hb1.size (hG j hj)), fun j hj hg => ?_, fun j hj => ?_⟩, h2.below hb2, hu, fun j hj => Nat.le_trans hb.size (hF2 j hj), fun j hj => hj.elim⟩
  · have := h1.lt j hj
    have := hG j hg
    have := hb1.size
    omega
  · rcases hj with hj | hj
    · refine ⟨Nat.lt_of_lt_of_le (h2.lt j hj) hb2.size, fun e => ?_, fun e => ?_⟩
      · have := h1.lt j e
        have := hF2 j hj
        omega
      · have := h2.lt j hj
        have := hG j e
        omega
    · exact hj.elim
end
/-! ### One change more, and what a crash leaves -/
section
variable {P U : Pd} {c : Cp} {keep torn : Int} {n : Nat}
theorem kept_eq (P : Pd) (keep : Int) (n : Nat) (hn : P.q.length = n) : P.kept keep = (min (max keep 0) n).toNat := by unfold Pd.kept; rw [hn]
theorem crash_all (hn : P.q.length = n) (h : (n : Int) ≤ max keep 0) : (P.crash keep torn).files = P.files := by
  show (P.crash keep torn).safe = P.files
  have hk : P.kept keep = n := by rw [kept_eq P keep n hn]; omega
  simp only [Pd.crash, hk]
  split
  · rw [if_neg (by omega)]
  · rfl
theorem crash_push_at (hn : P.q.length = n) (h : (n : Int) = max keep 0) : (Pd.crash { P with q := c :: P.q } keep torn).files = partP c torn P.files := by
  show (Pd.crash { P with q := c :: P.q } keep torn).safe = _
  have hk : Pd.kept { P with q := c :: P.q } keep = n := by
    rw [kept_eq _ keep (n + 1) (by simp [hn])]
    omega
  simp only [Pd.crash, hk]
  simp only [List.length_cons, hn]
  rw [show n + 1 - 1 - n = 0 by omega]
  simp only [List.getElem?_cons_zero]
  rw [if_pos (by omega), show n + 1 - n = 1 by omega]
  rfl
theorem crash_push_more (hn : P.q.length = n) (h : max keep 0 < (n : Int)) : (Pd.crash { P with q := c :: P.q } keep torn).files = (P.crash keep torn).files := by
  show (Pd.crash { P with q := c :: P.q } keep torn).safe = (P.crash keep torn).safe
  obtain ⟨K, hK⟩ : ∃ K, (max keep 0).toNat = K := ⟨_, rfl⟩
  have hk1 : Pd.kept { P with q := c :: P.q } keep = K := by
    rw [kept_eq _ keep (n + 1) (by simp [hn])]
    omega
  have hk2 : P.kept keep = K := by
    rw [kept_eq _ keep n hn]
    omega
  simp only [Pd.crash, hk1, hk2]
  simp only [List.length_cons, hn]
  rw [show n + 1 - 1 - K = (n - 1 - K) + 1 by omega, List.getElem?_cons_succ]
  have h2 : n - 1 - K < P.q.length := by omega
  rw [List.getElem?_eq_getElem h2]
  simp only
  rw [if_pos (by omega), if_pos (by omega), show n + 1 - K = (n - K) + 1 by omega, List.drop_succ_cons]
theorem run_push {P : Pd} {o : Oq} (h : 1 ≤ o.kd ∧ o.kd ≤ 4) : P.run o = P.push o.C := by
  unfold Pd.run
  rw [if_pos h]
theorem push_yes {P : Pd} {c : Cp} (h : P.code c = 0) : P.push c = { P with q := c :: P.q } := by unfold Pd.push; rw [if_pos h]
theorem push_not {P : Pd} {c : Cp} (h : P.code c ≠ 0) : P.push c = P := by unfold Pd.push; rw [if_neg h]
theorem code_same {P U : Pd} (hr : U.room = P.room) (hf : U.files = P.files) (c : Cp) : U.code c = P.code c := by unfold Pd.code; rw [hr, hf]
theorem files_push {P : Pd} {c : Cp} (h : P.code c = 0) : (P.push c).files = didP c P.files := by rw [push_yes h]; rfl
end
end Disk
end Go.Proofs.Ytdcppjpjlhbanaa
