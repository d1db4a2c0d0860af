/-
  One disk alone, and what is held beside it; awake (layer 7).
-/
import Derived.Test.YtdcppjpjlhbanaaDiskFiles
import Derived.Lib.SlBytesConst
namespace Go.Proofs.Ytdcppjpjlhbanaa
namespace Disk
open Go.RowKit Blk
attribute [local go_sem ↓] Go.wp_at_zero Go.wp_at_succ
/-- A disk in memory, all of it new since w; the blocks X are held beside it. -/
def On (X : Nat → Prop) (w V : World) (db N : Nat) (P : Pd) : Prop := ∃ F, PD F V db N P ∧ P.ok N ∧ Below w.heap.size w V ∧ (∀ j, F j → w.heap.size ≤ j) ∧ ∀ j, X j → j < V.heap.size ∧ ¬ F j
def KeptO (X : Nat → Prop) (V V' : World) : Prop := V.heap.size ≤ V'.heap.size ∧ ∀ j, X j → V'.heap[j]? = V.heap[j]?
section
variable {X Y : Nat → Prop} {w V V' : World} {db N N' : Nat} {P P' : Pd}
theorem On.old (h : On X w V db N P) : Below w.heap.size w V := by
  obtain ⟨F, _, _, h, _⟩ := h
  exact h
theorem On.oks (h : On X w V db N P) : P.ok N := by
  obtain ⟨F, _, h, _⟩ := h
  exact h
theorem On.below (h : On X w V db N P) (hb : Below V.heap.size V V') : On X w V' db N P := by
  obtain ⟨F, h1, h2, h3, h4, h5⟩ := h
  exact ⟨F, h1.below hb, h2, h3.trans (hb.mono h3.size), h4, fun j hj => ⟨Nat.lt_of_lt_of_le (h5 j hj).1 hb.size, (h5 j hj).2⟩⟩
theorem On.less (h : On X w V db N P) (hY : ∀ j, Y j → X j) : On Y w V db N P := by
  obtain ⟨F, h1, h2, h3, h4, h5⟩ := h
  exact ⟨F, h1, h2, h3, h4, fun j hj => h5 j (hY j hj)⟩
theorem On.mono (h : On X w V db N P) (hN : N ≤ N') (hN' : N' ≤ 10000000000000) : On X w V db N' P := by
  obtain ⟨F, h1, h2, h3⟩ := h
  exact ⟨F, h1.mono hN hN', h2.mono hN, h3⟩
theorem On.hold (h : On X w V db N P) (hb : Below V.heap.size V V') : On (fun j => X j ∨ (V.heap.size ≤ j ∧ j < V'.heap.size)) w V' db N P := by
  obtain ⟨F, h1, h2, h3, h4, h5⟩ := h
  refine ⟨F, h1.below hb, h2, h3.trans (hb.mono h3.size), h4, fun j hj => ?_⟩
  rcases hj with hj | hj
  · exact ⟨Nat.lt_of_lt_of_le (h5 j hj).1 hb.size, (h5 j hj).2⟩
  · exact ⟨hj.2, fun e => by have := h1.lt j e; omega⟩
/-- What is held may be turned. -/
theorem On.turn (h : On X w V db N P) (hc : Chg X V V') (hb : Below w.heap.size w V') : On X w V' db N P := by
  obtain ⟨F, h1, h2, h3, h4, h5⟩ := h
  exact ⟨F, h1.chg hc fun j hj hx => (h5 j hx).2 hj, h2, hb, h4, fun j hj => ⟨Nat.lt_of_lt_of_le (h5 j hj).1 hc.size, (h5 j hj).2⟩⟩
theorem stepO {F F' : Nat → Prop} (hb : Below w.heap.size w V) (hf : ∀ j, F j → w.heap.size ≤ j) (hX : ∀ j, X j → j < V.heap.size ∧ ¬ F j) (h1 : PD F' V' db N' P') (hs : Stp F V F' V') (hp : P'.ok N') : On X w V' db N' P' ∧ KeptO X V V' := by
  refine ⟨⟨F', h1, hp, hb.trans (hs.1.below hf hb.size), fun j hj => ?_, fun j hj => ⟨Nat.lt_of_lt_of_le (hX j hj).1 hs.1.size, fun e => ?_⟩⟩, hs.1.size, fun j hj => hs.1.block j (hX j hj).1 (hX j hj).2⟩
  · rcases hs.2 j hj with h | h
    · exact hf j h
    · have := hb.size; omega
  · rcases hs.2 j e with h | h
    · exact (hX j hj).2 h
    · have := (hX j hj).1; omega
theorem On.dod {f : FuncId} {args : Array Value} {C : Cp} (h : On X w V db N P) (hk : C.k = 1 ∨ C.k = 2 ∨ C.k = 3 ∨ C.k = 4) (hd : ∀ z ∈ C.d, 0 ≤ z ∧ z ≤ 255) (hc : ∀ F, PD F V db N P → 0 ≤ P.room → Calls Try.prog f args V (Dod F V db N P C)) {cd : Int} (hcd : P.code C = cd) :
    Calls Try.prog f args V (fun e w' => e = .returned (.int .i64 cd) ∧ Hid (On X w w' db (N + 1) (P.push C) ∧ KeptO X V w')) := by
  obtain ⟨F, h1, h2, h3, h4, h5⟩ := h
  refine (hc F h1 h2.1).mono ?_
  rintro e w' ⟨cd', rfl, hx⟩
  obtain ⟨F', q1, q2, q3⟩ := hx.out
  exact ⟨by rw [q1, hcd], Lib.hid (stepO h3 h4 h5 q2 q3 (h2.push hk hd).1)⟩
theorem On.prog {f : FuncId} {args : Array Value} (h : On X w V db N P) (hp : P.ok N → P'.ok N) (hc : ∀ F, PD F V db N P → 0 ≤ P.room → Calls Try.prog f args V (fun e w' => e = .returned (.tuple #[]) ∧ Hid (∃ F', PD F' w' db N P' ∧ Stp F V F' w'))) :
    Calls Try.prog f args V (fun e w' => e = .returned (.tuple #[]) ∧ Hid (On X w w' db N P' ∧ KeptO X V w')) := by
  obtain ⟨F, h1, h2, h3, h4, h5⟩ := h
  refine (hc F h1 h2.1).mono ?_
  rintro e w' ⟨rfl, hx⟩
  obtain ⟨F', q2, q3⟩ := hx.out
  exact ⟨rfl, Lib.hid (stepO h3 h4 h5 q2 q3 (hp h2))⟩
theorem On.append (h : On X w V db N P) (hN : N < 10000000000000) (s : Nm) (b : List Int) (kb : Nat) (hkb : b.length = kb) (Ab : Option Addr) (cb : Nat) (hb : Ns .u8 V V.heap.size Ab b) (hb8 : ∀ z ∈ b, 0 ≤ z ∧ z ≤ 255) {cd : Int} (hcd : P.code ⟨1, s, ⟨#[]⟩, b, 0⟩ = cd) :
    Calls Try.prog 21 #[hd db, .string s, .slice Ab kb cb] V (fun e w' => e = .returned (.int .i64 cd) ∧ Hid (On X w w' db (N + 1) (P.push ⟨1, s, ⟨#[]⟩, b, 0⟩) ∧ KeptO X V w')) :=
  h.dod (C := ⟨1, s, ⟨#[]⟩, b, 0⟩) (.inl rfl) hb8 (fun _ hp hr => pd_append hp hr hN s b kb hkb Ab cb hb hb8) hcd
theorem On.rename (h : On X w V db N P) (hN : N < 10000000000000) (s t : Nm) {cd : Int} (hcd : P.code ⟨3, s, t, [], 0⟩ = cd) :
    Calls Try.prog 23 #[hd db, .string s, .string t] V (fun e w' => e = .returned (.int .i64 cd) ∧ Hid (On X w w' db (N + 1) (P.push ⟨3, s, t, [], 0⟩) ∧ KeptO X V w')) :=
  h.dod (C := ⟨3, s, t, [], 0⟩) (.inr (.inr (.inl rfl))) (by simp) (fun _ hp _ => pd_rename hp hN s t) hcd
theorem On.remove (h : On X w V db N P) (hN : N < 10000000000000) (s : Nm) {cd : Int} (hcd : P.code ⟨4, s, ⟨#[]⟩, [], 0⟩ = cd) :
    Calls Try.prog 25 #[hd db, .string s] V (fun e w' => e = .returned (.int .i64 cd) ∧ Hid (On X w w' db (N + 1) (P.push ⟨4, s, ⟨#[]⟩, [], 0⟩) ∧ KeptO X V w')) :=
  h.dod (C := ⟨4, s, ⟨#[]⟩, [], 0⟩) (.inr (.inr (.inr rfl))) (by simp) (fun _ hp _ => pd_remove hp hN s) hcd
theorem On.sync (h : On X w V db N P) : Calls Try.prog 20 #[hd db] V (fun e w' => e = .returned (.tuple #[]) ∧ Hid (On X w w' db N P.sync ∧ KeptO X V w')) := h.prog (fun q => q.sync) fun _ hp _ => pd_sync hp
theorem On.crash (h : On X w V db N P) (keep torn : Int) : Calls Try.prog 22 #[hd db, .int .i64 keep, .int .i64 torn] V (fun e w' => e = .returned (.tuple #[]) ∧ Hid (On X w w' db N (P.crash keep torn) ∧ KeptO X V w')) := h.prog (fun q => q.crash _ _) fun _ hp _ => pd_crash hp keep torn
theorem On.loose (h : On X w V db N P) (n : Nat) (hn : P.q.length = n) : Calls Try.prog 13 #[hd db] V (fun e w' => e = .returned (.int .i64 n) ∧ w' = V) := by
  obtain ⟨F, h1, _⟩ := h
  exact pd_loose h1 n hn
theorem On.used (h : On X w V db N P) : Calls Try.prog 14 #[hd db] V (fun e w' => e = .returned (.int .i64 (used P.files)) ∧ w' = V) := by
  obtain ⟨F, h1, _⟩ := h
  exact pd_used h1
theorem On.read (h : On X w V db N P) (s : Nm) (hs : okN s) (k : Nat) (hk : (dat P.files s).length = k) :
    Calls Try.prog 19 #[hd db, .string s] V (fun e w' => ∃ A1 c1, e = .returned (.tuple #[.slice A1 k c1, .bool (find P.files s).isSome]) ∧ Hid (w'.ownsRow V.heap.size 5 1 (.slice A1 k c1) k (nums .u8 (dat P.files s)) ∧ Below V.heap.size V w')) := by
  obtain ⟨F, h1, _⟩ := h
  exact pd_read h1 s hs k hk
theorem On.names (h : On X w V db N P) (hN : N ≤ 8000000000000) :
    Calls Try.prog 24 #[hd db] V (fun e w' => ∃ g cap n, e = .returned (.slice (some ⟨g, 0, none⟩) n cap) ∧ Hid (n = P.files.length ∧ w'.ownsRow V.heap.size 9 1 (.slice (some ⟨g, 0, none⟩) n cap) n (P.files.map fun x => .string x.1) ∧ Below V.heap.size V w')) := by
  obtain ⟨F, h1, _⟩ := h
  exact pd_names h1 hN
theorem On.files (h : On X w V db N P) (hN : N ≤ 3000000000000) :
    Calls Try.prog 17 #[hd db] V (fun e w' => ∃ A n c, e = .returned (.slice A n c) ∧ Hid (∃ l, Fr (fun j => V.heap.size ≤ j) w' A n c l ∧ fsR l = P.files ∧ Below V.heap.size V w')) := by
  obtain ⟨F, h1, h2, _⟩ := h
  exact files_any h1 h2 hN
theorem on_new (w : World) {V : World} (hb : Below w.heap.size w V) (z : Int) (N : Nat) (hN : N ≤ 10000000000000) : Calls Try.prog 10 #[.int .i64 z] V (fun e w' => ∃ db, e = .returned (hd db) ∧ Hid (On (fun _ => False) w w' db N ⟨roomOf z, [], []⟩ ∧ Below V.heap.size V w')) := by
  refine (pd_new V z N hN).mono ?_
  rintro e w' ⟨db, rfl, hx⟩
  refine ⟨db, rfl, Lib.hid ⟨⟨_, hx.out.1, ⟨?_, ?_, Nat.zero_le _, okF_nil N (by unfold roomOf; simp only; omega)⟩, hb.trans (hx.out.2.mono hb.size), fun j hj => Nat.le_trans hb.size hj.1, fun j hj => hj.elim⟩, hx.out.2⟩⟩
  · unfold roomOf
    simp only
    omega
  · unfold roomOf
    simp only
    omega
end
/-! ### Plain words -/
section
variable {P : Pd} {s a b : Nm} {d x y : List Int}
theorem push_append (hs : okNm s) (hf : (used P.files : Int) + d.length ≤ P.room) : P.code ⟨1, s, ⟨#[]⟩, d, 0⟩ = 0 ∧ P.push ⟨1, s, ⟨#[]⟩, d, 0⟩ = ⟨P.room, P.safe, ⟨1, s, ⟨#[]⟩, d, 0⟩ :: P.q⟩ ∧ (P.push ⟨1, s, ⟨#[]⟩, d, 0⟩).files = wit P.files s (dat P.files s ++ d) := by
  have h0 : P.code ⟨1, s, ⟨#[]⟩, d, 0⟩ = 0 := by
    unfold Pd.code
    rw [if_neg (fun q => q.elim (fun q => q hs) fun q => absurd q.1 (by simp only; omega)), if_pos rfl]
    simp only
    rw [if_neg (by omega)]
  have h1 : P.push ⟨1, s, ⟨#[]⟩, d, 0⟩ = ⟨P.room, P.safe, ⟨1, s, ⟨#[]⟩, d, 0⟩ :: P.q⟩ := by
    unfold Pd.push
    rw [if_pos h0]
  refine ⟨h0, h1, ?_⟩
  rw [h1]
  show didP ⟨1, s, ⟨#[]⟩, d, 0⟩ (fR P.safe P.q) = wit (fR P.safe P.q) s (dat (fR P.safe P.q) s ++ d)
  unfold didP
  rw [if_pos rfl]
theorem wit_nil : wit [] s d = [(s, d)] := rfl
theorem dat_nil : dat [] s = [] := rfl
theorem find_one : find [(s, d)] s = some d := by unfold find; rw [if_pos rfl]
theorem dat_one : dat [(s, d)] s = d := by unfold dat; rw [find_one]; rfl
theorem find_oth (h : a ≠ b) : find [(a, d)] b = none := by unfold find; rw [if_neg h]; rfl
theorem dat_oth (h : a ≠ b) : dat [(a, d)] b = [] := by unfold dat; rw [find_oth h]; rfl
theorem wit_same : wit [(s, x)] s d = [(s, d)] := by
  have : wout [(s, x)] s = [] := by unfold wout; simp
  rw [wit, this]
  rfl
theorem wit_oth (h : a ≠ b) (hl : nlt b a = false) : wit [(a, x)] b d = [(a, x), (b, d)] := by
  have h1 : wout [(a, x)] b = [(a, x)] := by unfold wout; simp [h]
  rw [wit, h1]
  show (if nlt b a then _ else _) = _
  rw [if_neg (by rw [hl]; simp)]
  rfl
theorem wit_oth2 (h : a ≠ b) (hl : nlt b a = true) : wit [(a, x)] b d = [(b, d), (a, x)] := by
  have h1 : wout [(a, x)] b = [(a, x)] := by unfold wout; simp [h]
  rw [wit, h1]
  show (if nlt b a then _ else _) = _
  rw [if_pos hl]
theorem used_one : used [(s, d)] = d.length := by simp [used]
theorem used_nil : used [] = 0 := rfl
end
theorem const_ns {w : World} (zs : List Int) (ca : Nat × Nat) : Ns .u8 (w.alloc (.cells (nums .u8 zs).toArray 5 ca)) (w.alloc (.cells (nums .u8 zs).toArray 5 ca)).heap.size (some ⟨w.heap.size, 0, none⟩) zs := fun _ => ⟨w.heap.size, 0, rfl, by simp, fun j hj => by
  have h1 := heap_alloc_new w (.cells (nums .u8 zs).toArray 5 ca)
  rw [Nat.zero_add]
  simp only [World.cell?, h1]
  simp [nums, List.getElem?_eq_getElem hj]⟩
section
set_option maxRecDepth 100000 in
set_option maxHeartbeats 1000000 in
theorem awake_any (w : World) : Calls Try.prog 9 #[] w fun e w' => e = .returned (.bool true) ∧ Below w.heap.size w w' := by
  obtain ⟨na, hna⟩ : ∃ s : Nm, (⟨#[97]⟩ : ByteArray) = s := ⟨_, rfl⟩
  obtain ⟨nb, hnb⟩ : ∃ s : Nm, (⟨#[98]⟩ : ByteArray) = s := ⟨_, rfl⟩
  have ha : okNm na := by rw [← hna]; decide
  have hb : okNm nb := by rw [← hnb]; decide
  have hne : na ≠ nb := by rw [← hna, ← hnb]; decide
  have hlt : nlt nb na = false := by
    rw [← hna, ← hnb, Bool.eq_false_iff]
    intro e
    rw [nlt_iff, Lib.toList_data, Lib.toList_data] at e
    exact absurd e (by decide)
  have H1 := Lib.hid (on_new w (Below.refl _ w) 9 100 (by omega))
  have hr9 : roomOf 9 = 9 := by decide
  rw [hr9] at H1
  have HA := Lib.hid (And.intro ha (And.intro hb (And.intro hne hlt)))
  have HNa := Lib.hid hna
  have HNb := Lib.hid hnb
  clear ha hb hne hlt hr9 hna hnb
  go_enter Try.func9, Try.ntmps9
  go_wp2_with fail
  refine H1.out.mono ?_
  rintro e1 w1 ⟨db, rfl, h1⟩
  have S1 : Hid (On (fun _ => False) w w1 db 100 ⟨9, [], []⟩) := Lib.hid h1.out.1
  clear h1
  have hal : Below w1.heap.size w1 (w1.alloc (.cells #[.int .u8 120, .int .u8 121] 5 (2, 3))) := (Below.refl _ w1).alloc (Nat.le_refl _) _
  have kc : (convert 29 29 (.slice (some ⟨w1.heap.size, 0, none⟩) 2 2)).run Try.prog (w1.alloc (.cells #[.int .u8 120, .int .u8 121] 5)) = .ok (.slice (some ⟨w1.heap.size, 0, none⟩) 2 2) (w1.alloc (.cells #[.int .u8 120, .int .u8 121] 5 (2, 3))) := Lib.run_convert_bytes_const (P := Try.prog) w1 29 5 #[.int .u8 120, .int .u8 121] 2 2 Try.underlying29 Try.underlying5
  have p2 := push_append (P := ⟨9, [], []⟩) (s := na) (d := [120, 121]) HA.out.1 (by show ((0 : Nat) : Int) + 2 ≤ 9; omega)
  have H2 := (S1.out.below hal).append (by omega) na [120, 121] 2 rfl (some ⟨w1.heap.size, 0, none⟩) 2 (const_ns [120, 121] (2, 3)) (by simp) p2.1
  rw [p2.2.1, ← HNa.out] at H2
  have H2 := Lib.hid H2
  clear hal p2
  go_wp2_with fail
  refine H2.out.mono ?_
  rintro e2 w2 ⟨rfl, h2⟩
  have H3 := Lib.hid (h2.out.1.sync)
  clear h2 kc
  go_wp2_with fail
  refine H3.out.mono ?_
  rintro e3 w3 ⟨rfl, h3⟩
  rw [HNa.out] at h3
  have hf3 : (Pd.sync ⟨9, [], [⟨1, na, ⟨#[]⟩, [120, 121], 0⟩]⟩) = ⟨9, [(na, [120, 121])], []⟩ := rfl
  have h3' := h3.out.1
  rw [hf3] at h3'
  have S3 := Lib.hid h3'
  clear h3 h3' hf3
  have hal : Below w3.heap.size w3 (w3.alloc (.cells #[.int .u8 122, .int .u8 49] 5 (2, 3))) := (Below.refl _ w3).alloc (Nat.le_refl _) _
  have kc : (convert 29 29 (.slice (some ⟨w3.heap.size, 0, none⟩) 2 2)).run Try.prog (w3.alloc (.cells #[.int .u8 122, .int .u8 49] 5)) = .ok (.slice (some ⟨w3.heap.size, 0, none⟩) 2 2) (w3.alloc (.cells #[.int .u8 122, .int .u8 49] 5 (2, 3))) := Lib.run_convert_bytes_const (P := Try.prog) w3 29 5 #[.int .u8 122, .int .u8 49] 2 2 Try.underlying29 Try.underlying5
  have p4 := push_append (P := ⟨9, [(na, [120, 121])], []⟩) (s := na) (d := [122, 49]) HA.out.1 (by show ((used [(na, [120, 121])] : Nat) : Int) + 2 ≤ 9; rw [used_one]; simp)
  have H4 := (S3.out.below hal).append (by omega) na [122, 49] 2 rfl (some ⟨w3.heap.size, 0, none⟩) 2 (const_ns [122, 49] (2, 3)) (by simp) p4.1
  rw [p4.2.1] at H4
  rw [show Calls Try.prog 21 #[hd db, .string na, .slice (some ⟨w3.heap.size, 0, none⟩) 2 2] = Calls Try.prog 21 #[hd db, .string ⟨#[97]⟩, .slice (some ⟨w3.heap.size, 0, none⟩) 2 2] by rw [HNa.out]] at H4
  have H4 := Lib.hid H4
  have F4 : Hid ((⟨9, [(na, [120, 121])], [⟨1, na, ⟨#[]⟩, [122, 49], 0⟩]⟩ : Pd).files = [(na, [120, 121, 122, 49])]) := Lib.hid (by
    have := p4.2.2
    rw [p4.2.1] at this
    rw [this]
    show wit [(na, [120, 121])] na (dat [(na, [120, 121])] na ++ [122, 49]) = _
    rw [wit_same, dat_one]
    rfl)
  clear hal p4
  go_wp2_with fail
  refine H4.out.mono ?_
  rintro e4 w4 ⟨rfl, h4⟩
  have S4 := Lib.hid h4.out.1
  clear h4 kc
  have hal : Below w4.heap.size w4 (w4.alloc (.cells #[.int .u8 113] 5 (1, 2))) := (Below.refl _ w4).alloc (Nat.le_refl _) _
  have kc : (convert 29 29 (.slice (some ⟨w4.heap.size, 0, none⟩) 1 1)).run Try.prog (w4.alloc (.cells #[.int .u8 113] 5)) = .ok (.slice (some ⟨w4.heap.size, 0, none⟩) 1 1) (w4.alloc (.cells #[.int .u8 113] 5 (1, 2))) := Lib.run_convert_bytes_const (P := Try.prog) w4 29 5 #[.int .u8 113] 1 1 Try.underlying29 Try.underlying5
  have p5 := push_append (P := ⟨9, [(na, [120, 121])], [⟨1, na, ⟨#[]⟩, [122, 49], 0⟩]⟩) (s := nb) (d := [113]) HA.out.2.1 (by rw [F4.out, used_one]; simp)
  have H5 := (S4.out.below hal).append (by omega) nb [113] 1 rfl (some ⟨w4.heap.size, 0, none⟩) 1 (const_ns [113] (1, 2)) (by simp) p5.1
  rw [p5.2.1] at H5
  rw [show Calls Try.prog 21 #[hd db, .string nb, .slice (some ⟨w4.heap.size, 0, none⟩) 1 1] = Calls Try.prog 21 #[hd db, .string ⟨#[98]⟩, .slice (some ⟨w4.heap.size, 0, none⟩) 1 1] by rw [HNb.out]] at H5
  have H5 := Lib.hid H5
  clear hal p5
  go_wp2_with fail
  refine H5.out.mono ?_
  rintro e5 w5 ⟨rfl, h5⟩
  have S5 := Lib.hid h5.out.1
  have H6 := Lib.hid (S5.out.loose 2 rfl)
  have H7 := Lib.hid (S5.out.crash 0 1)
  clear h5 kc
  go_wp2_with fail
  refine H6.out.mono ?_
  rintro e6 w6 ⟨rfl, hw6⟩
  obtain rfl := hw6.symm
  go_wp2_with fail
  refine H7.out.mono ?_
  rintro e7 w7 ⟨rfl, h7⟩
  have hf7 : (Pd.crash ⟨9, [(na, [120, 121])], [⟨1, nb, ⟨#[]⟩, [113], 0⟩, ⟨1, na, ⟨#[]⟩, [122, 49], 0⟩]⟩ 0 1) = ⟨9, [(na, [120, 121, 122])], []⟩ := by
    show (⟨9, partP ⟨1, na, ⟨#[]⟩, [122, 49], 0⟩ 1 [(na, [120, 121])], []⟩ : Pd) = _
    unfold partP
    rw [if_pos ⟨rfl, (by show 0 < tor 1 2; decide)⟩]
    unfold didP
    rw [if_pos rfl]
    show (⟨9, wit [(na, [120, 121])] na (dat [(na, [120, 121])] na ++ [122]), []⟩ : Pd) = _
    rw [wit_same, dat_one]
    rfl
  have h7' := h7.out.1
  rw [hf7] at h7'
  have S7 := Lib.hid h7'
  clear h7 h7' hf7
  have H8 := S7.out.read na (ok_of HA.out.1.2) 3 (by show (dat [(na, [120, 121, 122])] na).length = 3; rw [dat_one]; rfl)
  rw [show find (⟨9, [(na, [120, 121, 122])], []⟩ : Pd).files na = some [120, 121, 122] from find_one, show dat (⟨9, [(na, [120, 121, 122])], []⟩ : Pd).files na = [120, 121, 122] from dat_one] at H8
  rw [show Calls Try.prog 19 #[hd db, .string na] = Calls Try.prog 19 #[hd db, .string ⟨#[97]⟩] by rw [HNa.out]] at H8
  have H8 := Lib.hid H8
  go_wp2_with fail
  refine H8.out.mono ?_
  rintro e8 w8 ⟨A8, c8, rfl, h8⟩
  have S8 := Lib.hid (S7.out.below h8.out.2)
  have k1 := run_conv_ns (P := Try.prog) w8 29 5 9 Try.underlying29 Try.underlying5 Try.underlying9 c8 (own_ns (A := A8) (zs := [120, 121, 122]) h8.out.1)
  rw [show strOfNums [120, 121, 122] = ⟨#[120, 121, 122]⟩ from rfl, show ([120, 121, 122] : List Int).length = 3 from rfl] at k1
  have H9 := Lib.hid (S8.out.names (by omega))
  clear h8
  go_wp2_with fail
  refine H9.out.mono ?_
  rintro e9 w9 ⟨g9, c9, n9, rfl, h9⟩
  obtain rfl : n9 = 1 := h9.out.1
  have HE := Lib.hid (S8.out.old.trans (h9.out.2.2.mono S8.out.old.size))
  clear h9
  go_wp2_with fail
  go_ret
  exact ⟨rfl, HE.out⟩
end
end Disk
end Go.Proofs.Ytdcppjpjlhbanaa
