/-
  The program's disk and the document's, side by side; does (layer 7). Written by wip/gen7/does.py.
-/
import Derived.Test.YtdcppjpjlhbanaaDiskFiles
import Derived.Test.YtdcppjpjlhbanaaDiskDocCrash
namespace Go.Proofs.Ytdcppjpjlhbanaa
namespace Disk
open Go.RowKit Blk
attribute [local go_sem ↓] Go.wp_at_zero Go.wp_at_succ
/-- One of a script. -/
structure Oq where
  kd : Int
  s : Nm
  t : Nm
  d : List Int
  n : Int
  torn : Int
def Oq.C (o : Oq) : Cp := if o.kd = 1 then ⟨1, o.s, ⟨#[]⟩, o.d, 0⟩ else if o.kd = 2 then ⟨2, o.s, ⟨#[]⟩, [], o.n⟩ else if o.kd = 3 then ⟨3, o.s, o.t, [], 0⟩ else ⟨4, o.s, ⟨#[]⟩, [], 0⟩
def Pd.run (P : Pd) (o : Oq) : Pd := if 1 ≤ o.kd ∧ o.kd ≤ 4 then P.push o.C else if o.kd = 5 then P.sync else if o.kd = 6 then P.crash o.n o.torn else if o.kd = 7 then P.wipe else P
def ansB (P Q : Pd) (o : Oq) : Bool := if 1 ≤ o.kd ∧ o.kd ≤ 4 then P.code o.C == Q.code o.C else true
theorem Oq.kind (o : Oq) : o.C.k = 1 ∨ o.C.k = 2 ∨ o.C.k = 3 ∨ o.C.k = 4 := by
  unfold Oq.C
  split
  · exact .inl rfl
  · split
    · exact .inr (.inl rfl)
    · split
      · exact .inr (.inr (.inl rfl))
      · exact .inr (.inr (.inr rfl))
theorem Oq.bytes {o : Oq} (h : ∀ z ∈ o.d, 0 ≤ z ∧ z ≤ 255) : ∀ z ∈ o.C.d, 0 ≤ z ∧ z ≤ 255 := by
  unfold Oq.C
  split
  · exact h
  · split
    · simp
    · split
      · simp
      · simp
theorem Pd.ok.run {N : Nat} {P : Pd} (h : P.ok N) {o : Oq} (hd : ∀ z ∈ o.d, 0 ≤ z ∧ z ≤ 255) : (P.run o).ok (N + 1) := by
  unfold Pd.run
  split
  · exact (h.push o.kind (Oq.bytes hd)).1
  · split
    · exact h.sync.mono (by omega)
    · split
      · exact (h.crash _ _).mono (by omega)
      · split
        · exact h.wipe.mono (by omega)
        · exact h.mono (by omega)
def Kept (X : Nat → Prop) (V V' : World) : Prop := V.heap.size ≤ V'.heap.size ∧ ∀ j, X j → V'.heap[j]? = V.heap[j]?
theorem Kept.trans {X : Nat → Prop} {V V' V'' : World} (h : Kept X V V') (h' : Kept X V' V'') : Kept X V V'' := ⟨Nat.le_trans h.1 h'.1, fun j hj => (h'.2 j hj).trans (h.2 j hj)⟩
theorem Kept.less {X Y : Nat → Prop} {V V' : World} (h : Kept X V V') (hY : ∀ j, Y j → X j) : Kept Y V V' := ⟨h.1, fun j hj => h.2 j (hY j hj)⟩
/-- Both in one world, and what is held beside them. -/
def Bo (X : Nat → Prop) (w V : World) (db mb N M : Nat) (P Q : Pd) : Prop :=
  ∃ F G, PD F V db N P ∧ RD G V mb Q ∧ (P.ok N ∧ Q.ok M) ∧ Below w.heap.size w V ∧ (∀ j, F j → w.heap.size ≤ j) ∧ (∀ j, G j → w.heap.size ≤ j) ∧ (∀ j, F j → ¬ G j) ∧ ∀ j, X j → j < V.heap.size ∧ ¬ F j ∧ ¬ G j
section
variable {X Y : Nat → Prop} {w V V' : World} {db mb N M N' M' : Nat} {P Q P' Q' : Pd}
theorem Bo.old (h : Bo X w V db mb N M P Q) : Below w.heap.size w V := by
  obtain ⟨F, G, _, _, _, h, _⟩ := h
  exact h
theorem Bo.oks (h : Bo X w V db mb N M P Q) : P.ok N ∧ Q.ok M := by
  obtain ⟨F, G, _, _, h, _⟩ := h
  exact h
theorem Bo.below (h : Bo X w V db mb N M P Q) (hb : Below V.heap.size V V') : Bo X w V' db mb N M P Q := by
  obtain ⟨F, G, h1, h2, h3, h4, h5, h6, h7, h8⟩ := h
  exact ⟨F, G, h1.below hb, h2.below hb, h3, h4.trans (hb.mono h4.size), h5, h6, h7, fun j hj => ⟨Nat.lt_of_lt_of_le (h8 j hj).1 hb.size, (h8 j hj).2⟩⟩
theorem Bo.less (h : Bo X w V db mb N M P Q) (hY : ∀ j, Y j → X j) : Bo Y w V db mb N M P Q := by
  obtain ⟨F, G, h1, h2, h3, h4, h5, h6, h7, h8⟩ := h
  exact ⟨F, G, h1, h2, h3, h4, h5, h6, h7, fun j hj => h8 j (hY j hj)⟩
theorem Bo.mono (h : Bo X w V db mb N M P Q) (hN : N ≤ N') (hM : M ≤ M') (hN' : N' ≤ 10000000000000) : Bo X w V db mb N' M' P Q := by
  obtain ⟨F, G, h1, h2, h3, h4⟩ := h
  exact ⟨F, G, h1.mono hN hN', h2, ⟨h3.1.mono hN, h3.2.mono hM⟩, h4⟩
/-- What is new is held too. -/
theorem Bo.hold (h : Bo X w V db mb N M P Q) (hb : Below V.heap.size V V') : Bo (fun j => X j ∨ (V.heap.size ≤ j ∧ j < V'.heap.size)) w V' db mb N M P Q := by
  obtain ⟨F, G, h1, h2, h3, h4, h5, h6, h7, h8⟩ := h
  refine ⟨F, G, h1.below hb, h2.below hb, h3, h4.trans (hb.mono h4.size), h5, h6, h7, fun j hj => ?_⟩
  rcases hj with hj | hj
  · exact ⟨Nat.lt_of_lt_of_le (h8 j hj).1 hb.size, (h8 j hj).2⟩
  · exact ⟨hj.2, fun e => by have := h1.lt j e; omega, fun e => by have := h2.lt j e; omega⟩
theorem Bo.kept (h : Bo X w V db mb N M P Q) (hb : Below V.heap.size V V') : Bo X w V' db mb N M P Q ∧ Kept X V V' := ⟨h.below hb, hb.size, fun j hj => by
  obtain ⟨F, G, _, _, _, _, _, _, _, h8⟩ := h
  exact hb.block j (h8 j hj).1⟩
theorem stepF {F F' G : Nat → Prop} (hR : RD G V mb Q) (hb : Below w.heap.size w V) (hf : ∀ j, F j → w.heap.size ≤ j) (hg : ∀ j, G j → w.heap.size ≤ j) (hd : ∀ j, F j → ¬ G j) (hX : ∀ j, X j → j < V.heap.size ∧ ¬ F j ∧ ¬ G j) (hq : Q.ok M)
    (h1 : PD F' V' db N' P') (hs : Stp F V F' V') (hp : P'.ok N') : Bo X w V' db mb N' M P' Q ∧ Kept X V V' := by
  refine ⟨⟨F', G, h1, hR.chg hs.1 fun j hj e => hd j e hj, ⟨hp, hq⟩, hb.trans (hs.1.below hf hb.size), fun j hj => ?_, hg, fun j hj hg' => ?_, fun j hj => ⟨Nat.lt_of_lt_of_le (hX j hj).1 hs.1.size, fun e => ?_, (hX j hj).2.2⟩⟩, hs.1.size, fun j hj => hs.1.block j (hX j hj).1 (hX j hj).2.1⟩
  · rcases hs.2 j hj with h | h
    · exact hf j h
    · have := hb.size; omega
  · rcases hs.2 j hj with h | h
    · exact hd j h hg'
    · have := hR.lt j hg'; omega
  · rcases hs.2 j e with h | h
    · exact (hX j hj).2.1 h
    · have := (hX j hj).1; omega
theorem stepG {F G G' : Nat → Prop} (h0 : PD F V db N P) (hb : Below w.heap.size w V) (hf : ∀ j, F j → w.heap.size ≤ j) (hg : ∀ j, G j → w.heap.size ≤ j) (hd : ∀ j, F j → ¬ G j) (hX : ∀ j, X j → j < V.heap.size ∧ ¬ F j ∧ ¬ G j) (hp : P.ok N)
    (h1 : RD G' V' mb Q') (hs : Stp G V G' V') (hq : Q'.ok M') : Bo X w V' db mb N M' P Q' ∧ Kept X V V' := by
  refine ⟨⟨F, G', h0.chg hs.1 fun j hj e => hd j hj e, h1, ⟨hp, hq⟩, hb.trans (hs.1.below hg hb.size), hf, fun j hj => ?_, fun j hj hg' => ?_, fun j hj => ⟨Nat.lt_of_lt_of_le (hX j hj).1 hs.1.size, (hX j hj).2.1, fun e => ?_⟩⟩, hs.1.size, fun j hj => hs.1.block j (hX j hj).1 (hX j hj).2.2⟩
  · rcases hs.2 j hj with h | h
    · exact hg j h
    · have := hb.size; omega
  · rcases hs.2 j hg' with h | h
    · exact hd j hj h
    · have := h0.lt j hj; omega
  · rcases hs.2 j e with h | h
    · exact (hX j hj).2.2 h
    · have := (hX j hj).1; omega
/-- A change of the program's. -/
theorem Bo.dod {f : FuncId} {args : Array Value} {C : Cp} (h : Bo X w V db mb N M P Q) (hk : C.k = 1 ∨ C.k = 2 ∨ C.k = 3 ∨ C.k = 4) (hd : ∀ z ∈ C.d, 0 ≤ z ∧ z ≤ 255) (hc : ∀ F, PD F V db N P → 0 ≤ P.room → Calls Try.prog f args V (Dod F V db N P C)) :
    Calls Try.prog f args V (fun e w' => ∃ cd, e = .returned (.int .i64 cd) ∧ Hid (cd = P.code C ∧ Bo X w w' db mb (N + 1) M (P.push C) Q ∧ Kept X V w')) := by
  obtain ⟨F, G, h1, h2, h3, h4, h5, h6, h7, h8⟩ := h
  refine (hc F h1 h3.1.1).mono ?_
  rintro e w' ⟨cd, rfl, hx⟩
  obtain ⟨F', q1, q2, q3⟩ := hx.out
  exact ⟨cd, rfl, Lib.hid ⟨q1, stepF h2 h4 h5 h6 h7 h8 h3.2 q2 q3 (h3.1.push hk hd).1⟩⟩
/-- A change of the document's. -/
theorem Bo.did {f : FuncId} {args : Array Value} {C : Cp} (h : Bo X w V db mb N M P Q) (hk : C.k = 1 ∨ C.k = 2 ∨ C.k = 3 ∨ C.k = 4) (hd : ∀ z ∈ C.d, 0 ≤ z ∧ z ≤ 255) (hc : ∀ G, RD G V mb Q → Q.ok M → Calls Try.prog f args V (Did G V mb Q C)) :
    Calls Try.prog f args V (fun e w' => ∃ cd, e = .returned (.int .i64 cd) ∧ Hid (cd = Q.code C ∧ Bo X w w' db mb N (M + 1) P (Q.push C) ∧ Kept X V w')) := by
  obtain ⟨F, G, h1, h2, h3, h4, h5, h6, h7, h8⟩ := h
  refine (hc G h2 h3.2).mono ?_
  rintro e w' ⟨cd, rfl, hx⟩
  obtain ⟨G', q1, q2, q3⟩ := hx.out
  exact ⟨cd, rfl, Lib.hid ⟨q1, stepG h1 h4 h5 h6 h7 h8 h3.1 q2 q3 (h3.2.push hk hd).1⟩⟩
theorem Bo.prog {f : FuncId} {args : Array Value} (h : Bo X w V db mb N M P Q) (hp : P.ok N → P'.ok N) (hc : ∀ F, PD F V db N P → 0 ≤ P.room → Calls Try.prog f args V (fun e w' => e = .returned (.tuple #[]) ∧ Hid (∃ F', PD F' w' db N P' ∧ Stp F V F' w'))) :
    Calls Try.prog f args V (fun e w' => e = .returned (.tuple #[]) ∧ Hid (Bo X w w' db mb N M P' Q ∧ Kept X V w')) := by
  obtain ⟨F, G, h1, h2, h3, h4, h5, h6, h7, h8⟩ := h
  refine (hc F h1 h3.1.1).mono ?_
  rintro e w' ⟨rfl, hx⟩
  obtain ⟨F', q2, q3⟩ := hx.out
  exact ⟨rfl, Lib.hid (stepF h2 h4 h5 h6 h7 h8 h3.2 q2 q3 (hp h3.1))⟩
theorem Bo.doc {f : FuncId} {args : Array Value} (h : Bo X w V db mb N M P Q) (hp : Q.ok M → Q'.ok M) (hc : ∀ G, RD G V mb Q → Q.ok M → Calls Try.prog f args V (fun e w' => e = .returned (.tuple #[]) ∧ Hid (∃ G', RD G' w' mb Q' ∧ Stp G V G' w'))) :
    Calls Try.prog f args V (fun e w' => e = .returned (.tuple #[]) ∧ Hid (Bo X w w' db mb N M P Q' ∧ Kept X V w')) := by
  obtain ⟨F, G, h1, h2, h3, h4, h5, h6, h7, h8⟩ := h
  refine (hc G h2 h3.2).mono ?_
  rintro e w' ⟨rfl, hx⟩
  obtain ⟨G', q2, q3⟩ := hx.out
  exact ⟨rfl, Lib.hid (stepG h1 h4 h5 h6 h7 h8 h3.1 q2 q3 (hp h3.2))⟩
/-- What does tells. -/
def DoesP (X : Nat → Prop) (w V : World) (db mb N M : Nat) (P Q : Pd) (o : Oq) (e : Ending) (w' : World) : Prop :=
  ∃ b, e = .returned (.bool b) ∧ Hid (b = ansB P Q o ∧ Bo X w w' db mb (N + 1) (M + 1) (P.run o) (Q.run o) ∧ Kept X V w')
set_option maxRecDepth 100000 in
set_option maxHeartbeats 8000000 in
theorem does_1 (h : Bo X w V db mb N M P Q) (hN : N < 1900000000000) (hM : M < 1900000000000) (o : Oq) (k : Nat) (hk : o.d.length = k) (hkb : k ≤ 140737488355327) (A : Option Addr) (c : Nat) (hx : Ns .u8 w w.heap.size A o.d) (hd8 : ∀ z ∈ o.d, 0 ≤ z ∧ z ≤ 255) (hk0 : o.kd = 1) :
    Calls Try.prog 12 #[hd db, .pointer (some ⟨mb, 0, none⟩), .agg #[.int .i64 o.kd, .string o.s, .string o.t, .slice A k c, .int .i64 o.n, .int .i64 o.torn]] V (DoesP X w V db mb N M P Q o) := by
  obtain ⟨bx, hbx⟩ : ∃ b, V.heap.size = b := ⟨_, rfl⟩
  obtain ⟨kd, hkd⟩ : ∃ z, o.kd = z := ⟨_, rfl⟩
  obtain ⟨s, hs⟩ : ∃ z, o.s = z := ⟨_, rfl⟩
  obtain ⟨t, ht⟩ : ∃ z, o.t = z := ⟨_, rfl⟩
  obtain ⟨n, hn⟩ : ∃ z, o.n = z := ⟨_, rfl⟩
  obtain ⟨torn, htn⟩ : ∃ z, o.torn = z := ⟨_, rfl⟩
  rw [hkd, hs, ht, hn, htn]
  obtain ⟨U, hU⟩ : ∃ U, V.alloc (.cells #[.int .i64 kd, .string s, .string t, .slice A k c, .int .i64 n, .int .i64 torn] 31) = U := ⟨_, rfl⟩
  have hb : Below V.heap.size V U := by rw [← hU]; exact (Below.refl _ V).alloc (Nat.le_refl _) _
  have hB : Bn bx 31 [.int .i64 kd, .string s, .string t, .slice A k c, .int .i64 n, .int .i64 torn] U := by rw [← hU, ← hbx]; exact heap_alloc_new V _
  have hXb : V.heap.size ≤ bx ∧ bx < U.heap.size := ⟨by omega, hB.lt⟩
  have hBo := h.hold hb
  have hKU : Kept X V U := (h.kept hb).2
  obtain ⟨Y, hY⟩ : ∃ Y, Y = fun j => X j ∨ (V.heap.size ≤ j ∧ j < U.heap.size) := ⟨_, rfl⟩
  rw [← hY] at hBo
  have hYx : Y bx := by rw [hY]; exact .inr hXb
  have hYX : ∀ j, X j → Y j := fun j hj => by rw [hY]; exact .inl hj
  have x0 := (hB.cell 0).trans rfl
  have x1 := (hB.cell 1).trans rfl
  have x2 := (hB.cell 2).trans rfl
  have x3 := (hB.cell 3).trans rfl
  have x4 := (hB.cell 4).trans rfl
  have x5 := (hB.cell 5).trans rfl
  have z1 : U.drew.cell? ⟨bx, 1, none⟩ = some (.string s) := x1
  have z2 : U.drew.cell? ⟨bx, 2, none⟩ = some (.string t) := x2
  have z3 : U.drew.cell? ⟨bx, 3, none⟩ = some (.slice A k c) := x3
  have z4 : U.drew.cell? ⟨bx, 4, none⟩ = some (.int .i64 n) := x4
  have hBd : Bo Y w U.drew db mb N M P Q := hBo.below (Below.refl _ U).drew
  have fin : ∀ (P' Q' : Pd) (W : World) (b : Bool) (N' M' : Nat), P.run o = P' → Q.run o = Q' → ansB P Q o = b → Bo Y w W db mb N' M' P' Q' → N' ≤ N + 1 → M' ≤ M + 1 → Kept Y U W → DoesP X w V db mb N M P Q o (.returned (.bool b)) W := fun P' Q' W b N' M' q1 q2 q3 q4 q5 q6 q7 => by
    refine ⟨b, rfl, Lib.hid ⟨q3.symm, ?_, hKU.trans (q7.less hYX)⟩⟩
    rw [q1, q2]
    exact (q4.less hYX).mono q5 q6 (by omega)
  have HF := Lib.hid fin
  have HH := Lib.hid (And.intro hB (And.intro hYx (And.intro hx (And.intro hd8 (And.intro hk (And.intro hBo hBd))))))
  have HO := Lib.hid (And.intro hkd (And.intro hs (And.intro ht (And.intro hn htn))))
  clear h hb hB hXb hBo hKU hYx hYX hx hd8 hk hBd fin hkd hs ht hn htn hY
  obtain rfl : kd = 1 := by rw [← HO.out.1]; exact hk0
  clear hk0
  have hC : o.C = ⟨1, s, ⟨#[]⟩, o.d, 0⟩ := by
    unfold Oq.C
    rw [HO.out.1]
    simp only [HO.out.2.1, HO.out.2.2.1, HO.out.2.2.2.1]
    rfl
  have HR : Hid (P.run o = P.push ⟨1, s, ⟨#[]⟩, o.d, 0⟩ ∧ Q.run o = Q.push ⟨1, s, ⟨#[]⟩, o.d, 0⟩ ∧ ansB P Q o = (P.code ⟨1, s, ⟨#[]⟩, o.d, 0⟩ == Q.code ⟨1, s, ⟨#[]⟩, o.d, 0⟩)) := Lib.hid (by
    refine ⟨?_, ?_, ?_⟩ <;> simp [Pd.run, ansB, HO.out.1, hC])
  have H1 := Lib.hid (HH.out.2.2.2.2.2.2.dod (C := ⟨1, s, ⟨#[]⟩, o.d, 0⟩) (.inl rfl) HH.out.2.2.2.1 fun F hp hr => pd_append hp hr (by omega) s o.d k HH.out.2.2.2.2.1 A c (HH.out.2.2.1.below HH.out.2.2.2.2.2.2.old |>.more HH.out.2.2.2.2.2.2.old.size) HH.out.2.2.2.1)
  have hcP : ∀ (a : Array Value) (w : World), (callFunc 21 a).run Try.prog w = .ok (.enter 21 a) w := fun a w => by simp [go_sem]
  have hcD : ∀ (a : Array Value) (w : World), (callFunc 26 a).run Try.prog w = .ok (.enter 26 a) w := fun a w => by simp [go_sem]
  clear hC
  go_enter Try.func12, Try.ntmps12
  go_wp2_with fail
  go_region_law (first
    | (refine step_call (by rfl) 21 _ _ (by rfl) (hcP _ _) #[hd db, .string s, .slice A k c] (by first | rfl | simp [Act.eval] | simp [Act.eval, Act.put]) H1.out (fun e w' h => by obtain ⟨_, rfl, _⟩ := h; exact ⟨_, rfl⟩) ?_; rintro v2 w2 ⟨cd, hv2, h2⟩; injection hv2 with hv2; subst hv2; have hW := h2.out.2.1; have hK := h2.out.2.2; have y1 := ((HH.out.1.same (hK.2 bx HH.out.2.1)).cell 1).trans rfl; have y3 := ((HH.out.1.same (hK.2 bx HH.out.2.1)).cell 3).trans rfl; have H2 := Lib.hid (hW.did (C := ⟨1, s, ⟨#[]⟩, o.d, 0⟩) (.inl rfl) HH.out.2.2.2.1 fun G hq hk2 => doc_append hq hk2 (by omega) s o.d k HH.out.2.2.2.2.1 A c (HH.out.2.2.1.below hW.old |>.more hW.old.size) HH.out.2.2.2.1 hkb); have HW := Lib.hid (And.intro h2.out.1 hK); clear hW hK h2)
    | (refine step_call (by rfl) 26 _ _ (by rfl) (hcD _ _) #[.pointer (some ⟨mb, 0, none⟩), .string s, .slice A k c] (by first | rfl | simp [Act.eval] | simp [Act.eval, Act.put]) H2.out (fun e w' h => by obtain ⟨_, rfl, _⟩ := h; exact ⟨_, rfl⟩) ?_; rintro v3 w3 ⟨cd3, hv3, h3⟩; injection hv3 with hv3; subst hv3))
  all_goals
    have HE := Lib.hid (HF.out _ _ w3 (cd == cd3) (N + 1) (M + 1) HR.out.1 HR.out.2.1 (by rw [HR.out.2.2, HW.out.1, h3.out.1]) h3.out.2.1 (Nat.le_refl _) (Nat.le_refl _) (HW.out.2.trans h3.out.2.2))
    clear h3
    go_wp2_with fail
    go_ret
    exact HE.out
set_option maxRecDepth 100000 in
set_option maxHeartbeats 8000000 in
theorem does_2 (h : Bo X w V db mb N M P Q) (hN : N < 1900000000000) (hM : M < 1900000000000) (o : Oq) (k : Nat) (hk : o.d.length = k) (_hkb : k ≤ 140737488355327) (A : Option Addr) (c : Nat) (hx : Ns .u8 w w.heap.size A o.d) (hd8 : ∀ z ∈ o.d, 0 ≤ z ∧ z ≤ 255) (hk0 : o.kd = 2) :
    Calls Try.prog 12 #[hd db, .pointer (some ⟨mb, 0, none⟩), .agg #[.int .i64 o.kd, .string o.s, .string o.t, .slice A k c, .int .i64 o.n, .int .i64 o.torn]] V (DoesP X w V db mb N M P Q o) := by
  obtain ⟨bx, hbx⟩ : ∃ b, V.heap.size = b := ⟨_, rfl⟩
  obtain ⟨kd, hkd⟩ : ∃ z, o.kd = z := ⟨_, rfl⟩
  obtain ⟨s, hs⟩ : ∃ z, o.s = z := ⟨_, rfl⟩
  obtain ⟨t, ht⟩ : ∃ z, o.t = z := ⟨_, rfl⟩
  obtain ⟨n, hn⟩ : ∃ z, o.n = z := ⟨_, rfl⟩
  obtain ⟨torn, htn⟩ : ∃ z, o.torn = z := ⟨_, rfl⟩
  rw [hkd, hs, ht, hn, htn]
  obtain ⟨U, hU⟩ : ∃ U, V.alloc (.cells #[.int .i64 kd, .string s, .string t, .slice A k c, .int .i64 n, .int .i64 torn] 31) = U := ⟨_, rfl⟩
  have hb : Below V.heap.size V U := by rw [← hU]; exact (Below.refl _ V).alloc (Nat.le_refl _) _
  have hB : Bn bx 31 [.int .i64 kd, .string s, .string t, .slice A k c, .int .i64 n, .int .i64 torn] U := by rw [← hU, ← hbx]; exact heap_alloc_new V _
  have hXb : V.heap.size ≤ bx ∧ bx < U.heap.size := ⟨by omega, hB.lt⟩
  have hBo := h.hold hb
  have hKU : Kept X V U := (h.kept hb).2
  obtain ⟨Y, hY⟩ : ∃ Y, Y = fun j => X j ∨ (V.heap.size ≤ j ∧ j < U.heap.size) := ⟨_, rfl⟩
  rw [← hY] at hBo
  have hYx : Y bx := by rw [hY]; exact .inr hXb
  have hYX : ∀ j, X j → Y j := fun j hj => by rw [hY]; exact .inl hj
  have x0 := (hB.cell 0).trans rfl
  have x1 := (hB.cell 1).trans rfl
  have x2 := (hB.cell 2).trans rfl
  have x3 := (hB.cell 3).trans rfl
  have x4 := (hB.cell 4).trans rfl
  have x5 := (hB.cell 5).trans rfl
  have z1 : U.drew.cell? ⟨bx, 1, none⟩ = some (.string s) := x1
  have z2 : U.drew.cell? ⟨bx, 2, none⟩ = some (.string t) := x2
  have z3 : U.drew.cell? ⟨bx, 3, none⟩ = some (.slice A k c) := x3
  have z4 : U.drew.cell? ⟨bx, 4, none⟩ = some (.int .i64 n) := x4
  have hBd : Bo Y w U.drew db mb N M P Q := hBo.below (Below.refl _ U).drew
  have fin : ∀ (P' Q' : Pd) (W : World) (b : Bool) (N' M' : Nat), P.run o = P' → Q.run o = Q' → ansB P Q o = b → Bo Y w W db mb N' M' P' Q' → N' ≤ N + 1 → M' ≤ M + 1 → Kept Y U W → DoesP X w V db mb N M P Q o (.returned (.bool b)) W := fun P' Q' W b N' M' q1 q2 q3 q4 q5 q6 q7 => by
    refine ⟨b, rfl, Lib.hid ⟨q3.symm, ?_, hKU.trans (q7.less hYX)⟩⟩
    rw [q1, q2]
    exact (q4.less hYX).mono q5 q6 (by omega)
  have HF := Lib.hid fin
  have HH := Lib.hid (And.intro hB (And.intro hYx (And.intro hx (And.intro hd8 (And.intro hk (And.intro hBo hBd))))))
  have HO := Lib.hid (And.intro hkd (And.intro hs (And.intro ht (And.intro hn htn))))
  clear h hb hB hXb hBo hKU hYx hYX hx hd8 hk hBd fin hkd hs ht hn htn hY
  obtain rfl : kd = 2 := by rw [← HO.out.1]; exact hk0
  clear hk0
  have hC : o.C = ⟨2, s, ⟨#[]⟩, [], n⟩ := by
    unfold Oq.C
    rw [HO.out.1]
    simp only [HO.out.2.1, HO.out.2.2.1, HO.out.2.2.2.1]
    rfl
  have HR : Hid (P.run o = P.push ⟨2, s, ⟨#[]⟩, [], n⟩ ∧ Q.run o = Q.push ⟨2, s, ⟨#[]⟩, [], n⟩ ∧ ansB P Q o = (P.code ⟨2, s, ⟨#[]⟩, [], n⟩ == Q.code ⟨2, s, ⟨#[]⟩, [], n⟩)) := Lib.hid (by
    refine ⟨?_, ?_, ?_⟩ <;> simp [Pd.run, ansB, HO.out.1, hC])
  have H1 := Lib.hid (HH.out.2.2.2.2.2.2.dod (C := ⟨2, s, ⟨#[]⟩, [], n⟩) (.inr (.inl rfl)) (by simp) fun F hp hr => pd_cut hp (by omega) s n)
  have hcP : ∀ (a : Array Value) (w : World), (callFunc 27 a).run Try.prog w = .ok (.enter 27 a) w := fun a w => by simp [go_sem]
  have hcD : ∀ (a : Array Value) (w : World), (callFunc 28 a).run Try.prog w = .ok (.enter 28 a) w := fun a w => by simp [go_sem]
  clear hC
  go_enter Try.func12, Try.ntmps12
  go_wp2_with fail
  go_region_law (first
    | (refine step_call (by rfl) 27 _ _ (by rfl) (hcP _ _) #[hd db, .string s, .int .i64 n] (by first | rfl | simp [Act.eval] | simp [Act.eval, Act.put]) H1.out (fun e w' h => by obtain ⟨_, rfl, _⟩ := h; exact ⟨_, rfl⟩) ?_; rintro v2 w2 ⟨cd, hv2, h2⟩; injection hv2 with hv2; subst hv2; have hW := h2.out.2.1; have hK := h2.out.2.2; have y1 := ((HH.out.1.same (hK.2 bx HH.out.2.1)).cell 1).trans rfl; have y4 := ((HH.out.1.same (hK.2 bx HH.out.2.1)).cell 4).trans rfl; have H2 := Lib.hid (hW.did (C := ⟨2, s, ⟨#[]⟩, [], n⟩) (.inr (.inl rfl)) (by simp) fun G hq hk2 => doc_cut hq hk2 (by omega) s n); have HW := Lib.hid (And.intro h2.out.1 hK); clear hW hK h2)
    | (refine step_call (by rfl) 28 _ _ (by rfl) (hcD _ _) #[.pointer (some ⟨mb, 0, none⟩), .string s, .int .i64 n] (by first | rfl | simp [Act.eval] | simp [Act.eval, Act.put]) H2.out (fun e w' h => by obtain ⟨_, rfl, _⟩ := h; exact ⟨_, rfl⟩) ?_; rintro v3 w3 ⟨cd3, hv3, h3⟩; injection hv3 with hv3; subst hv3))
  all_goals
    have HE := Lib.hid (HF.out _ _ w3 (cd == cd3) (N + 1) (M + 1) HR.out.1 HR.out.2.1 (by rw [HR.out.2.2, HW.out.1, h3.out.1]) h3.out.2.1 (Nat.le_refl _) (Nat.le_refl _) (HW.out.2.trans h3.out.2.2))
    clear h3
    go_wp2_with fail
    go_ret
    exact HE.out
set_option maxRecDepth 100000 in
set_option maxHeartbeats 8000000 in
theorem does_3 (h : Bo X w V db mb N M P Q) (hN : N < 1900000000000) (hM : M < 1900000000000) (o : Oq) (k : Nat) (hk : o.d.length = k) (_hkb : k ≤ 140737488355327) (A : Option Addr) (c : Nat) (hx : Ns .u8 w w.heap.size A o.d) (hd8 : ∀ z ∈ o.d, 0 ≤ z ∧ z ≤ 255) (hk0 : o.kd = 3) :
    Calls Try.prog 12 #[hd db, .pointer (some ⟨mb, 0, none⟩), .agg #[.int .i64 o.kd, .string o.s, .string o.t, .slice A k c, .int .i64 o.n, .int .i64 o.torn]] V (DoesP X w V db mb N M P Q o) := by
  obtain ⟨bx, hbx⟩ : ∃ b, V.heap.size = b := ⟨_, rfl⟩
  obtain ⟨kd, hkd⟩ : ∃ z, o.kd = z := ⟨_, rfl⟩
  obtain ⟨s, hs⟩ : ∃ z, o.s = z := ⟨_, rfl⟩
  obtain ⟨t, ht⟩ : ∃ z, o.t = z := ⟨_, rfl⟩
  obtain ⟨n, hn⟩ : ∃ z, o.n = z := ⟨_, rfl⟩
  obtain ⟨torn, htn⟩ : ∃ z, o.torn = z := ⟨_, rfl⟩
  rw [hkd, hs, ht, hn, htn]
  obtain ⟨U, hU⟩ : ∃ U, V.alloc (.cells #[.int .i64 kd, .string s, .string t, .slice A k c, .int .i64 n, .int .i64 torn] 31) = U := ⟨_, rfl⟩
  have hb : Below V.heap.size V U := by rw [← hU]; exact (Below.refl _ V).alloc (Nat.le_refl _) _
  have hB : Bn bx 31 [.int .i64 kd, .string s, .string t, .slice A k c, .int .i64 n, .int .i64 torn] U := by rw [← hU, ← hbx]; exact heap_alloc_new V _
  have hXb : V.heap.size ≤ bx ∧ bx < U.heap.size := ⟨by omega, hB.lt⟩
  have hBo := h.hold hb
  have hKU : Kept X V U := (h.kept hb).2
  obtain ⟨Y, hY⟩ : ∃ Y, Y = fun j => X j ∨ (V.heap.size ≤ j ∧ j < U.heap.size) := ⟨_, rfl⟩
  rw [← hY] at hBo
  have hYx : Y bx := by rw [hY]; exact .inr hXb
  have hYX : ∀ j, X j → Y j := fun j hj => by rw [hY]; exact .inl hj
  have x0 := (hB.cell 0).trans rfl
  have x1 := (hB.cell 1).trans rfl
  have x2 := (hB.cell 2).trans rfl
  have x3 := (hB.cell 3).trans rfl
  have x4 := (hB.cell 4).trans rfl
  have x5 := (hB.cell 5).trans rfl
  have z1 : U.drew.cell? ⟨bx, 1, none⟩ = some (.string s) := x1
  have z2 : U.drew.cell? ⟨bx, 2, none⟩ = some (.string t) := x2
  have z3 : U.drew.cell? ⟨bx, 3, none⟩ = some (.slice A k c) := x3
  have z4 : U.drew.cell? ⟨bx, 4, none⟩ = some (.int .i64 n) := x4
  have hBd : Bo Y w U.drew db mb N M P Q := hBo.below (Below.refl _ U).drew
  have fin : ∀ (P' Q' : Pd) (W : World) (b : Bool) (N' M' : Nat), P.run o = P' → Q.run o = Q' → ansB P Q o = b → Bo Y w W db mb N' M' P' Q' → N' ≤ N + 1 → M' ≤ M + 1 → Kept Y U W → DoesP X w V db mb N M P Q o (.returned (.bool b)) W := fun P' Q' W b N' M' q1 q2 q3 q4 q5 q6 q7 => by
    refine ⟨b, rfl, Lib.hid ⟨q3.symm, ?_, hKU.trans (q7.less hYX)⟩⟩
    rw [q1, q2]
    exact (q4.less hYX).mono q5 q6 (by omega)
  have HF := Lib.hid fin
  have HH := Lib.hid (And.intro hB (And.intro hYx (And.intro hx (And.intro hd8 (And.intro hk (And.intro hBo hBd))))))
  have HO := Lib.hid (And.intro hkd (And.intro hs (And.intro ht (And.intro hn htn))))
  clear h hb hB hXb hBo hKU hYx hYX hx hd8 hk hBd fin hkd hs ht hn htn hY
  obtain rfl : kd = 3 := by rw [← HO.out.1]; exact hk0
  clear hk0
  have hC : o.C = ⟨3, s, t, [], 0⟩ := by
    unfold Oq.C
    rw [HO.out.1]
    simp only [HO.out.2.1, HO.out.2.2.1, HO.out.2.2.2.1]
    rfl
  have HR : Hid (P.run o = P.push ⟨3, s, t, [], 0⟩ ∧ Q.run o = Q.push ⟨3, s, t, [], 0⟩ ∧ ansB P Q o = (P.code ⟨3, s, t, [], 0⟩ == Q.code ⟨3, s, t, [], 0⟩)) := Lib.hid (by
    refine ⟨?_, ?_, ?_⟩ <;> simp [Pd.run, ansB, HO.out.1, hC])
  have H1 := Lib.hid (HH.out.2.2.2.2.2.2.dod (C := ⟨3, s, t, [], 0⟩) (.inr (.inr (.inl rfl))) (by simp) fun F hp hr => pd_rename hp (by omega) s t)
  have hcP : ∀ (a : Array Value) (w : World), (callFunc 23 a).run Try.prog w = .ok (.enter 23 a) w := fun a w => by simp [go_sem]
  have hcD : ∀ (a : Array Value) (w : World), (callFunc 29 a).run Try.prog w = .ok (.enter 29 a) w := fun a w => by simp [go_sem]
  clear hC
  go_enter Try.func12, Try.ntmps12
  go_wp2_with fail
  go_region_law (first
    | (refine step_call (by rfl) 23 _ _ (by rfl) (hcP _ _) #[hd db, .string s, .string t] (by first | rfl | simp [Act.eval] | simp [Act.eval, Act.put]) H1.out (fun e w' h => by obtain ⟨_, rfl, _⟩ := h; exact ⟨_, rfl⟩) ?_; rintro v2 w2 ⟨cd, hv2, h2⟩; injection hv2 with hv2; subst hv2; have hW := h2.out.2.1; have hK := h2.out.2.2; have y1 := ((HH.out.1.same (hK.2 bx HH.out.2.1)).cell 1).trans rfl; have y2 := ((HH.out.1.same (hK.2 bx HH.out.2.1)).cell 2).trans rfl; have H2 := Lib.hid (hW.did (C := ⟨3, s, t, [], 0⟩) (.inr (.inr (.inl rfl))) (by simp) fun G hq hk2 => doc_rename hq hk2 (by omega) s t); have HW := Lib.hid (And.intro h2.out.1 hK); clear hW hK h2)
    | (refine step_call (by rfl) 29 _ _ (by rfl) (hcD _ _) #[.pointer (some ⟨mb, 0, none⟩), .string s, .string t] (by first | rfl | simp [Act.eval] | simp [Act.eval, Act.put]) H2.out (fun e w' h => by obtain ⟨_, rfl, _⟩ := h; exact ⟨_, rfl⟩) ?_; rintro v3 w3 ⟨cd3, hv3, h3⟩; injection hv3 with hv3; subst hv3))
  all_goals
    have HE := Lib.hid (HF.out _ _ w3 (cd == cd3) (N + 1) (M + 1) HR.out.1 HR.out.2.1 (by rw [HR.out.2.2, HW.out.1, h3.out.1]) h3.out.2.1 (Nat.le_refl _) (Nat.le_refl _) (HW.out.2.trans h3.out.2.2))
    clear h3
    go_wp2_with fail
    go_ret
    exact HE.out
set_option maxRecDepth 100000 in
set_option maxHeartbeats 8000000 in
theorem does_4 (h : Bo X w V db mb N M P Q) (hN : N < 1900000000000) (hM : M < 1900000000000) (o : Oq) (k : Nat) (hk : o.d.length = k) (_hkb : k ≤ 140737488355327) (A : Option Addr) (c : Nat) (hx : Ns .u8 w w.heap.size A o.d) (hd8 : ∀ z ∈ o.d, 0 ≤ z ∧ z ≤ 255) (hk0 : o.kd = 4) :
    Calls Try.prog 12 #[hd db, .pointer (some ⟨mb, 0, none⟩), .agg #[.int .i64 o.kd, .string o.s, .string o.t, .slice A k c, .int .i64 o.n, .int .i64 o.torn]] V (DoesP X w V db mb N M P Q o) := by
  obtain ⟨bx, hbx⟩ : ∃ b, V.heap.size = b := ⟨_, rfl⟩
  obtain ⟨kd, hkd⟩ : ∃ z, o.kd = z := ⟨_, rfl⟩
  obtain ⟨s, hs⟩ : ∃ z, o.s = z := ⟨_, rfl⟩
  obtain ⟨t, ht⟩ : ∃ z, o.t = z := ⟨_, rfl⟩
  obtain ⟨n, hn⟩ : ∃ z, o.n = z := ⟨_, rfl⟩
  obtain ⟨torn, htn⟩ : ∃ z, o.torn = z := ⟨_, rfl⟩
  rw [hkd, hs, ht, hn, htn]
  obtain ⟨U, hU⟩ : ∃ U, V.alloc (.cells #[.int .i64 kd, .string s, .string t, .slice A k c, .int .i64 n, .int .i64 torn] 31) = U := ⟨_, rfl⟩
  have hb : Below V.heap.size V U := by rw [← hU]; exact (Below.refl _ V).alloc (Nat.le_refl _) _
  have hB : Bn bx 31 [.int .i64 kd, .string s, .string t, .slice A k c, .int .i64 n, .int .i64 torn] U := by rw [← hU, ← hbx]; exact heap_alloc_new V _
  have hXb : V.heap.size ≤ bx ∧ bx < U.heap.size := ⟨by omega, hB.lt⟩
  have hBo := h.hold hb
  have hKU : Kept X V U := (h.kept hb).2
  obtain ⟨Y, hY⟩ : ∃ Y, Y = fun j => X j ∨ (V.heap.size ≤ j ∧ j < U.heap.size) := ⟨_, rfl⟩
  rw [← hY] at hBo
  have hYx : Y bx := by rw [hY]; exact .inr hXb
  have hYX : ∀ j, X j → Y j := fun j hj => by rw [hY]; exact .inl hj
  have x0 := (hB.cell 0).trans rfl
  have x1 := (hB.cell 1).trans rfl
  have x2 := (hB.cell 2).trans rfl
  have x3 := (hB.cell 3).trans rfl
  have x4 := (hB.cell 4).trans rfl
  have x5 := (hB.cell 5).trans rfl
  have z1 : U.drew.cell? ⟨bx, 1, none⟩ = some (.string s) := x1
  have z2 : U.drew.cell? ⟨bx, 2, none⟩ = some (.string t) := x2
  have z3 : U.drew.cell? ⟨bx, 3, none⟩ = some (.slice A k c) := x3
  have z4 : U.drew.cell? ⟨bx, 4, none⟩ = some (.int .i64 n) := x4
  have hBd : Bo Y w U.drew db mb N M P Q := hBo.below (Below.refl _ U).drew
  have fin : ∀ (P' Q' : Pd) (W : World) (b : Bool) (N' M' : Nat), P.run o = P' → Q.run o = Q' → ansB P Q o = b → Bo Y w W db mb N' M' P' Q' → N' ≤ N + 1 → M' ≤ M + 1 → Kept Y U W → DoesP X w V db mb N M P Q o (.returned (.bool b)) W := fun P' Q' W b N' M' q1 q2 q3 q4 q5 q6 q7 => by
    refine ⟨b, rfl, Lib.hid ⟨q3.symm, ?_, hKU.trans (q7.less hYX)⟩⟩
    rw [q1, q2]
    exact (q4.less hYX).mono q5 q6 (by omega)
  have HF := Lib.hid fin
  have HH := Lib.hid (And.intro hB (And.intro hYx (And.intro hx (And.intro hd8 (And.intro hk (And.intro hBo hBd))))))
  have HO := Lib.hid (And.intro hkd (And.intro hs (And.intro ht (And.intro hn htn))))
  clear h hb hB hXb hBo hKU hYx hYX hx hd8 hk hBd fin hkd hs ht hn htn hY
  obtain rfl : kd = 4 := by rw [← HO.out.1]; exact hk0
  clear hk0
  have hC : o.C = ⟨4, s, ⟨#[]⟩, [], 0⟩ := by
    unfold Oq.C
    rw [HO.out.1]
    simp only [HO.out.2.1, HO.out.2.2.1, HO.out.2.2.2.1]
    rfl
  have HR : Hid (P.run o = P.push ⟨4, s, ⟨#[]⟩, [], 0⟩ ∧ Q.run o = Q.push ⟨4, s, ⟨#[]⟩, [], 0⟩ ∧ ansB P Q o = (P.code ⟨4, s, ⟨#[]⟩, [], 0⟩ == Q.code ⟨4, s, ⟨#[]⟩, [], 0⟩)) := Lib.hid (by
    refine ⟨?_, ?_, ?_⟩ <;> simp [Pd.run, ansB, HO.out.1, hC])
  have H1 := Lib.hid (HH.out.2.2.2.2.2.2.dod (C := ⟨4, s, ⟨#[]⟩, [], 0⟩) (.inr (.inr (.inr rfl))) (by simp) fun F hp hr => pd_remove hp (by omega) s)
  have hcP : ∀ (a : Array Value) (w : World), (callFunc 25 a).run Try.prog w = .ok (.enter 25 a) w := fun a w => by simp [go_sem]
  have hcD : ∀ (a : Array Value) (w : World), (callFunc 30 a).run Try.prog w = .ok (.enter 30 a) w := fun a w => by simp [go_sem]
  clear hC
  go_enter Try.func12, Try.ntmps12
  go_wp2_with fail
  go_region_law (first
    | (refine step_call (by rfl) 25 _ _ (by rfl) (hcP _ _) #[hd db, .string s] (by first | rfl | simp [Act.eval] | simp [Act.eval, Act.put]) H1.out (fun e w' h => by obtain ⟨_, rfl, _⟩ := h; exact ⟨_, rfl⟩) ?_; rintro v2 w2 ⟨cd, hv2, h2⟩; injection hv2 with hv2; subst hv2; have hW := h2.out.2.1; have hK := h2.out.2.2; have y1 := ((HH.out.1.same (hK.2 bx HH.out.2.1)).cell 1).trans rfl; have H2 := Lib.hid (hW.did (C := ⟨4, s, ⟨#[]⟩, [], 0⟩) (.inr (.inr (.inr rfl))) (by simp) fun G hq hk2 => doc_remove hq hk2 (by omega) s); have HW := Lib.hid (And.intro h2.out.1 hK); clear hW hK h2)
    | (refine step_call (by rfl) 30 _ _ (by rfl) (hcD _ _) #[.pointer (some ⟨mb, 0, none⟩), .string s] (by first | rfl | simp [Act.eval] | simp [Act.eval, Act.put]) H2.out (fun e w' h => by obtain ⟨_, rfl, _⟩ := h; exact ⟨_, rfl⟩) ?_; rintro v3 w3 ⟨cd3, hv3, h3⟩; injection hv3 with hv3; subst hv3))
  all_goals
    have HE := Lib.hid (HF.out _ _ w3 (cd == cd3) (N + 1) (M + 1) HR.out.1 HR.out.2.1 (by rw [HR.out.2.2, HW.out.1, h3.out.1]) h3.out.2.1 (Nat.le_refl _) (Nat.le_refl _) (HW.out.2.trans h3.out.2.2))
    clear h3
    go_wp2_with fail
    go_ret
    exact HE.out
set_option maxRecDepth 100000 in
set_option maxHeartbeats 8000000 in
theorem does_5 (h : Bo X w V db mb N M P Q) (hN : N < 1900000000000) (hM : M < 1900000000000) (o : Oq) (k : Nat) (hk : o.d.length = k) (_hkb : k ≤ 140737488355327) (A : Option Addr) (c : Nat) (hx : Ns .u8 w w.heap.size A o.d) (hd8 : ∀ z ∈ o.d, 0 ≤ z ∧ z ≤ 255) (hk0 : o.kd = 5) :
    Calls Try.prog 12 #[hd db, .pointer (some ⟨mb, 0, none⟩), .agg #[.int .i64 o.kd, .string o.s, .string o.t, .slice A k c, .int .i64 o.n, .int .i64 o.torn]] V (DoesP X w V db mb N M P Q o) := by
  obtain ⟨bx, hbx⟩ : ∃ b, V.heap.size = b := ⟨_, rfl⟩
  obtain ⟨kd, hkd⟩ : ∃ z, o.kd = z := ⟨_, rfl⟩
  obtain ⟨s, hs⟩ : ∃ z, o.s = z := ⟨_, rfl⟩
  obtain ⟨t, ht⟩ : ∃ z, o.t = z := ⟨_, rfl⟩
  obtain ⟨n, hn⟩ : ∃ z, o.n = z := ⟨_, rfl⟩
  obtain ⟨torn, htn⟩ : ∃ z, o.torn = z := ⟨_, rfl⟩
  rw [hkd, hs, ht, hn, htn]
  obtain ⟨U, hU⟩ : ∃ U, V.alloc (.cells #[.int .i64 kd, .string s, .string t, .slice A k c, .int .i64 n, .int .i64 torn] 31) = U := ⟨_, rfl⟩
  have hb : Below V.heap.size V U := by rw [← hU]; exact (Below.refl _ V).alloc (Nat.le_refl _) _
  have hB : Bn bx 31 [.int .i64 kd, .string s, .string t, .slice A k c, .int .i64 n, .int .i64 torn] U := by rw [← hU, ← hbx]; exact heap_alloc_new V _
  have hXb : V.heap.size ≤ bx ∧ bx < U.heap.size := ⟨by omega, hB.lt⟩
  have hBo := h.hold hb
  have hKU : Kept X V U := (h.kept hb).2
  obtain ⟨Y, hY⟩ : ∃ Y, Y = fun j => X j ∨ (V.heap.size ≤ j ∧ j < U.heap.size) := ⟨_, rfl⟩
  rw [← hY] at hBo
  have hYx : Y bx := by rw [hY]; exact .inr hXb
  have hYX : ∀ j, X j → Y j := fun j hj => by rw [hY]; exact .inl hj
  have x0 := (hB.cell 0).trans rfl
  have x1 := (hB.cell 1).trans rfl
  have x2 := (hB.cell 2).trans rfl
  have x3 := (hB.cell 3).trans rfl
  have x4 := (hB.cell 4).trans rfl
  have x5 := (hB.cell 5).trans rfl
  have z1 : U.drew.cell? ⟨bx, 1, none⟩ = some (.string s) := x1
  have z2 : U.drew.cell? ⟨bx, 2, none⟩ = some (.string t) := x2
  have z3 : U.drew.cell? ⟨bx, 3, none⟩ = some (.slice A k c) := x3
  have z4 : U.drew.cell? ⟨bx, 4, none⟩ = some (.int .i64 n) := x4
  have hBd : Bo Y w U.drew db mb N M P Q := hBo.below (Below.refl _ U).drew
  have fin : ∀ (P' Q' : Pd) (W : World) (b : Bool) (N' M' : Nat), P.run o = P' → Q.run o = Q' → ansB P Q o = b → Bo Y w W db mb N' M' P' Q' → N' ≤ N + 1 → M' ≤ M + 1 → Kept Y U W → DoesP X w V db mb N M P Q o (.returned (.bool b)) W := fun P' Q' W b N' M' q1 q2 q3 q4 q5 q6 q7 => by
    refine ⟨b, rfl, Lib.hid ⟨q3.symm, ?_, hKU.trans (q7.less hYX)⟩⟩
    rw [q1, q2]
    exact (q4.less hYX).mono q5 q6 (by omega)
  have HF := Lib.hid fin
  have HH := Lib.hid (And.intro hB (And.intro hYx (And.intro hx (And.intro hd8 (And.intro hk (And.intro hBo hBd))))))
  have HO := Lib.hid (And.intro hkd (And.intro hs (And.intro ht (And.intro hn htn))))
  clear h hb hB hXb hBo hKU hYx hYX hx hd8 hk hBd fin hkd hs ht hn htn hY
  obtain rfl : kd = 5 := by rw [← HO.out.1]; exact hk0
  clear hk0
  have HR : Hid (P.run o = P.sync ∧ Q.run o = Q.sync ∧ ansB P Q o = true) := Lib.hid (by
    refine ⟨?_, ?_, ?_⟩ <;> simp [Pd.run, ansB, HO.out.1])
  have H1 := Lib.hid (HH.out.2.2.2.2.2.1.prog (P' := P.sync) (fun q => q.sync) fun F hp hr => pd_sync hp)
  go_enter Try.func12, Try.ntmps12
  go_wp2_with fail
  refine H1.out.mono ?_
  rintro e w2 ⟨rfl, h2⟩
  have hW := h2.out.1
  have hK := h2.out.2
  have H2 := Lib.hid (hW.doc (Q' := Q.sync) (fun q => q.sync) fun G hq hk2 => doc_sync hq hk2 (by omega))
  have HW := Lib.hid hK
  clear hW hK h2
  go_wp2_with fail
  refine H2.out.mono ?_
  rintro e w3 ⟨rfl, h3⟩
  have HE := Lib.hid (HF.out _ _ w3 true N M HR.out.1 HR.out.2.1 HR.out.2.2 h3.out.1 (by omega) (by omega) (HW.out.trans h3.out.2))
  clear h3
  go_wp2_with fail
  go_ret
  exact HE.out
set_option maxRecDepth 100000 in
set_option maxHeartbeats 8000000 in
theorem does_6 (h : Bo X w V db mb N M P Q) (hN : N < 1900000000000) (hM : M < 1900000000000) (o : Oq) (k : Nat) (hk : o.d.length = k) (_hkb : k ≤ 140737488355327) (A : Option Addr) (c : Nat) (hx : Ns .u8 w w.heap.size A o.d) (hd8 : ∀ z ∈ o.d, 0 ≤ z ∧ z ≤ 255) (hk0 : o.kd = 6) :
    Calls Try.prog 12 #[hd db, .pointer (some ⟨mb, 0, none⟩), .agg #[.int .i64 o.kd, .string o.s, .string o.t, .slice A k c, .int .i64 o.n, .int .i64 o.torn]] V (DoesP X w V db mb N M P Q o) := by
  obtain ⟨bx, hbx⟩ : ∃ b, V.heap.size = b := ⟨_, rfl⟩
  obtain ⟨kd, hkd⟩ : ∃ z, o.kd = z := ⟨_, rfl⟩
  obtain ⟨s, hs⟩ : ∃ z, o.s = z := ⟨_, rfl⟩
  obtain ⟨t, ht⟩ : ∃ z, o.t = z := ⟨_, rfl⟩
  obtain ⟨n, hn⟩ : ∃ z, o.n = z := ⟨_, rfl⟩
  obtain ⟨torn, htn⟩ : ∃ z, o.torn = z := ⟨_, rfl⟩
  rw [hkd, hs, ht, hn, htn]
  obtain ⟨U, hU⟩ : ∃ U, V.alloc (.cells #[.int .i64 kd, .string s, .string t, .slice A k c, .int .i64 n, .int .i64 torn] 31) = U := ⟨_, rfl⟩
  have hb : Below V.heap.size V U := by rw [← hU]; exact (Below.refl _ V).alloc (Nat.le_refl _) _
  have hB : Bn bx 31 [.int .i64 kd, .string s, .string t, .slice A k c, .int .i64 n, .int .i64 torn] U := by rw [← hU, ← hbx]; exact heap_alloc_new V _
  have hXb : V.heap.size ≤ bx ∧ bx < U.heap.size := ⟨by omega, hB.lt⟩
  have hBo := h.hold hb
  have hKU : Kept X V U := (h.kept hb).2
  obtain ⟨Y, hY⟩ : ∃ Y, Y = fun j => X j ∨ (V.heap.size ≤ j ∧ j < U.heap.size) := ⟨_, rfl⟩
  rw [← hY] at hBo
  have hYx : Y bx := by rw [hY]; exact .inr hXb
  have hYX : ∀ j, X j → Y j := fun j hj => by rw [hY]; exact .inl hj
  have x0 := (hB.cell 0).trans rfl
  have x1 := (hB.cell 1).trans rfl
  have x2 := (hB.cell 2).trans rfl
  have x3 := (hB.cell 3).trans rfl
  have x4 := (hB.cell 4).trans rfl
  have x5 := (hB.cell 5).trans rfl
  have z1 : U.drew.cell? ⟨bx, 1, none⟩ = some (.string s) := x1
  have z2 : U.drew.cell? ⟨bx, 2, none⟩ = some (.string t) := x2
  have z3 : U.drew.cell? ⟨bx, 3, none⟩ = some (.slice A k c) := x3
  have z4 : U.drew.cell? ⟨bx, 4, none⟩ = some (.int .i64 n) := x4
  have hBd : Bo Y w U.drew db mb N M P Q := hBo.below (Below.refl _ U).drew
  have fin : ∀ (P' Q' : Pd) (W : World) (b : Bool) (N' M' : Nat), P.run o = P' → Q.run o = Q' → ansB P Q o = b → Bo Y w W db mb N' M' P' Q' → N' ≤ N + 1 → M' ≤ M + 1 → Kept Y U W → DoesP X w V db mb N M P Q o (.returned (.bool b)) W := fun P' Q' W b N' M' q1 q2 q3 q4 q5 q6 q7 => by
    refine ⟨b, rfl, Lib.hid ⟨q3.symm, ?_, hKU.trans (q7.less hYX)⟩⟩
    rw [q1, q2]
    exact (q4.less hYX).mono q5 q6 (by omega)
  have HF := Lib.hid fin
  have HH := Lib.hid (And.intro hB (And.intro hYx (And.intro hx (And.intro hd8 (And.intro hk (And.intro hBo hBd))))))
  have HO := Lib.hid (And.intro hkd (And.intro hs (And.intro ht (And.intro hn htn))))
  clear h hb hB hXb hBo hKU hYx hYX hx hd8 hk hBd fin hkd hs ht hn htn hY
  obtain rfl : kd = 6 := by rw [← HO.out.1]; exact hk0
  clear hk0
  have HR : Hid (P.run o = P.crash n torn ∧ Q.run o = Q.crash n torn ∧ ansB P Q o = true) := Lib.hid (by
    refine ⟨?_, ?_, ?_⟩ <;> simp [Pd.run, ansB, HO.out.1, HO.out.2.2.2.1, HO.out.2.2.2.2])
  have H1 := Lib.hid (HH.out.2.2.2.2.2.1.prog (P' := P.crash n torn) (fun q => q.crash _ _) fun F hp hr => pd_crash hp n torn)
  go_enter Try.func12, Try.ntmps12
  go_wp2_with fail
  refine H1.out.mono ?_
  rintro e w2 ⟨rfl, h2⟩
  have hW := h2.out.1
  have hK := h2.out.2
  have y4 := ((HH.out.1.same (hK.2 bx HH.out.2.1)).cell 4).trans rfl
  have y5 := ((HH.out.1.same (hK.2 bx HH.out.2.1)).cell 5).trans rfl
  have H2 := Lib.hid (hW.doc (Q' := Q.crash n torn) (fun q => q.crash _ _) fun G hq hk2 => doc_crash hq hk2 (by omega) n torn)
  have HW := Lib.hid hK
  clear hW hK h2
  go_wp2_with fail
  refine H2.out.mono ?_
  rintro e w3 ⟨rfl, h3⟩
  have HE := Lib.hid (HF.out _ _ w3 true N M HR.out.1 HR.out.2.1 HR.out.2.2 h3.out.1 (by omega) (by omega) (HW.out.trans h3.out.2))
  clear h3
  go_wp2_with fail
  go_ret
  exact HE.out
set_option maxRecDepth 100000 in
set_option maxHeartbeats 8000000 in
theorem does_7 (h : Bo X w V db mb N M P Q) (hN : N < 1900000000000) (_hM : M < 1900000000000) (o : Oq) (k : Nat) (hk : o.d.length = k) (_hkb : k ≤ 140737488355327) (A : Option Addr) (c : Nat) (hx : Ns .u8 w w.heap.size A o.d) (hd8 : ∀ z ∈ o.d, 0 ≤ z ∧ z ≤ 255) (hk0 : o.kd = 7) :
    Calls Try.prog 12 #[hd db, .pointer (some ⟨mb, 0, none⟩), .agg #[.int .i64 o.kd, .string o.s, .string o.t, .slice A k c, .int .i64 o.n, .int .i64 o.torn]] V (DoesP X w V db mb N M P Q o) := by
  obtain ⟨bx, hbx⟩ : ∃ b, V.heap.size = b := ⟨_, rfl⟩
  obtain ⟨kd, hkd⟩ : ∃ z, o.kd = z := ⟨_, rfl⟩
  obtain ⟨s, hs⟩ : ∃ z, o.s = z := ⟨_, rfl⟩
  obtain ⟨t, ht⟩ : ∃ z, o.t = z := ⟨_, rfl⟩
  obtain ⟨n, hn⟩ : ∃ z, o.n = z := ⟨_, rfl⟩
  obtain ⟨torn, htn⟩ : ∃ z, o.torn = z := ⟨_, rfl⟩
  rw [hkd, hs, ht, hn, htn]
  obtain ⟨U, hU⟩ : ∃ U, V.alloc (.cells #[.int .i64 kd, .string s, .string t, .slice A k c, .int .i64 n, .int .i64 torn] 31) = U := ⟨_, rfl⟩
  have hb : Below V.heap.size V U := by rw [← hU]; exact (Below.refl _ V).alloc (Nat.le_refl _) _
  have hB : Bn bx 31 [.int .i64 kd, .string s, .string t, .slice A k c, .int .i64 n, .int .i64 torn] U := by rw [← hU, ← hbx]; exact heap_alloc_new V _
  have hXb : V.heap.size ≤ bx ∧ bx < U.heap.size := ⟨by omega, hB.lt⟩
  have hBo := h.hold hb
  have hKU : Kept X V U := (h.kept hb).2
  obtain ⟨Y, hY⟩ : ∃ Y, Y = fun j => X j ∨ (V.heap.size ≤ j ∧ j < U.heap.size) := ⟨_, rfl⟩
  rw [← hY] at hBo
  have hYx : Y bx := by rw [hY]; exact .inr hXb
  have hYX : ∀ j, X j → Y j := fun j hj => by rw [hY]; exact .inl hj
  have x0 := (hB.cell 0).trans rfl
  have x1 := (hB.cell 1).trans rfl
  have x2 := (hB.cell 2).trans rfl
  have x3 := (hB.cell 3).trans rfl
  have x4 := (hB.cell 4).trans rfl
  have x5 := (hB.cell 5).trans rfl
  have z1 : U.drew.cell? ⟨bx, 1, none⟩ = some (.string s) := x1
  have z2 : U.drew.cell? ⟨bx, 2, none⟩ = some (.string t) := x2
  have z3 : U.drew.cell? ⟨bx, 3, none⟩ = some (.slice A k c) := x3
  have z4 : U.drew.cell? ⟨bx, 4, none⟩ = some (.int .i64 n) := x4
  have hBd : Bo Y w U.drew db mb N M P Q := hBo.below (Below.refl _ U).drew
  have fin : ∀ (P' Q' : Pd) (W : World) (b : Bool) (N' M' : Nat), P.run o = P' → Q.run o = Q' → ansB P Q o = b → Bo Y w W db mb N' M' P' Q' → N' ≤ N + 1 → M' ≤ M + 1 → Kept Y U W → DoesP X w V db mb N M P Q o (.returned (.bool b)) W := fun P' Q' W b N' M' q1 q2 q3 q4 q5 q6 q7 => by
    refine ⟨b, rfl, Lib.hid ⟨q3.symm, ?_, hKU.trans (q7.less hYX)⟩⟩
    rw [q1, q2]
    exact (q4.less hYX).mono q5 q6 (by omega)
  have HF := Lib.hid fin
  have HH := Lib.hid (And.intro hB (And.intro hYx (And.intro hx (And.intro hd8 (And.intro hk (And.intro hBo hBd))))))
  have HO := Lib.hid (And.intro hkd (And.intro hs (And.intro ht (And.intro hn htn))))
  clear h hb hB hXb hBo hKU hYx hYX hx hd8 hk hBd fin hkd hs ht hn htn hY
  obtain rfl : kd = 7 := by rw [← HO.out.1]; exact hk0
  clear hk0
  have HR : Hid (P.run o = P.wipe ∧ Q.run o = Q.wipe ∧ ansB P Q o = true) := Lib.hid (by
    refine ⟨?_, ?_, ?_⟩ <;> simp [Pd.run, ansB, HO.out.1])
  have H1 := Lib.hid (HH.out.2.2.2.2.2.1.prog (P' := P.wipe) (fun q => q.wipe) fun F hp hr => pd_wipe hp hr)
  go_enter Try.func12, Try.ntmps12
  go_wp2_with fail
  refine H1.out.mono ?_
  rintro e w2 ⟨rfl, h2⟩
  have hW := h2.out.1
  have hK := h2.out.2
  have H2 := Lib.hid (hW.doc (Q' := Q.wipe) (fun q => q.wipe) fun G hq hk2 => doc_wipe hq)
  have HW := Lib.hid hK
  clear hW hK h2
  go_wp2_with fail
  refine H2.out.mono ?_
  rintro e w3 ⟨rfl, h3⟩
  have HE := Lib.hid (HF.out _ _ w3 true N M HR.out.1 HR.out.2.1 HR.out.2.2 h3.out.1 (by omega) (by omega) (HW.out.trans h3.out.2))
  clear h3
  go_wp2_with fail
  go_ret
  exact HE.out
set_option maxRecDepth 100000 in
set_option maxHeartbeats 8000000 in
theorem does_no (h : Bo X w V db mb N M P Q) (hN : N < 1900000000000) (_hM : M < 1900000000000) (o : Oq) (k : Nat) (hk : o.d.length = k) (_hkb : k ≤ 140737488355327) (A : Option Addr) (c : Nat) (hx : Ns .u8 w w.heap.size A o.d) (hd8 : ∀ z ∈ o.d, 0 ≤ z ∧ z ≤ 255) (hk0 : ∀ j : Int, 1 ≤ j → j ≤ 7 → o.kd ≠ j) :
    Calls Try.prog 12 #[hd db, .pointer (some ⟨mb, 0, none⟩), .agg #[.int .i64 o.kd, .string o.s, .string o.t, .slice A k c, .int .i64 o.n, .int .i64 o.torn]] V (DoesP X w V db mb N M P Q o) := by
  obtain ⟨bx, hbx⟩ : ∃ b, V.heap.size = b := ⟨_, rfl⟩
  obtain ⟨kd, hkd⟩ : ∃ z, o.kd = z := ⟨_, rfl⟩
  obtain ⟨s, hs⟩ : ∃ z, o.s = z := ⟨_, rfl⟩
  obtain ⟨t, ht⟩ : ∃ z, o.t = z := ⟨_, rfl⟩
  obtain ⟨n, hn⟩ : ∃ z, o.n = z := ⟨_, rfl⟩
  obtain ⟨torn, htn⟩ : ∃ z, o.torn = z := ⟨_, rfl⟩
  rw [hkd, hs, ht, hn, htn]
  obtain ⟨U, hU⟩ : ∃ U, V.alloc (.cells #[.int .i64 kd, .string s, .string t, .slice A k c, .int .i64 n, .int .i64 torn] 31) = U := ⟨_, rfl⟩
  have hb : Below V.heap.size V U := by rw [← hU]; exact (Below.refl _ V).alloc (Nat.le_refl _) _
  have hB : Bn bx 31 [.int .i64 kd, .string s, .string t, .slice A k c, .int .i64 n, .int .i64 torn] U := by rw [← hU, ← hbx]; exact heap_alloc_new V _
  have hXb : V.heap.size ≤ bx ∧ bx < U.heap.size := ⟨by omega, hB.lt⟩
  have hBo := h.hold hb
  have hKU : Kept X V U := (h.kept hb).2
  obtain ⟨Y, hY⟩ : ∃ Y, Y = fun j => X j ∨ (V.heap.size ≤ j ∧ j < U.heap.size) := ⟨_, rfl⟩
  rw [← hY] at hBo
  have hYx : Y bx := by rw [hY]; exact .inr hXb
  have hYX : ∀ j, X j → Y j := fun j hj => by rw [hY]; exact .inl hj
  have x0 := (hB.cell 0).trans rfl
  have x1 := (hB.cell 1).trans rfl
  have x2 := (hB.cell 2).trans rfl
  have x3 := (hB.cell 3).trans rfl
  have x4 := (hB.cell 4).trans rfl
  have x5 := (hB.cell 5).trans rfl
  have z1 : U.drew.cell? ⟨bx, 1, none⟩ = some (.string s) := x1
  have z2 : U.drew.cell? ⟨bx, 2, none⟩ = some (.string t) := x2
  have z3 : U.drew.cell? ⟨bx, 3, none⟩ = some (.slice A k c) := x3
  have z4 : U.drew.cell? ⟨bx, 4, none⟩ = some (.int .i64 n) := x4
  have hBd : Bo Y w U.drew db mb N M P Q := hBo.below (Below.refl _ U).drew
  have fin : ∀ (P' Q' : Pd) (W : World) (b : Bool) (N' M' : Nat), P.run o = P' → Q.run o = Q' → ansB P Q o = b → Bo Y w W db mb N' M' P' Q' → N' ≤ N + 1 → M' ≤ M + 1 → Kept Y U W → DoesP X w V db mb N M P Q o (.returned (.bool b)) W := fun P' Q' W b N' M' q1 q2 q3 q4 q5 q6 q7 => by
    refine ⟨b, rfl, Lib.hid ⟨q3.symm, ?_, hKU.trans (q7.less hYX)⟩⟩
    rw [q1, q2]
    exact (q4.less hYX).mono q5 q6 (by omega)
  have HF := Lib.hid fin
  have HH := Lib.hid (And.intro hB (And.intro hYx (And.intro hx (And.intro hd8 (And.intro hk (And.intro hBo hBd))))))
  have HO := Lib.hid (And.intro hkd (And.intro hs (And.intro ht (And.intro hn htn))))
  clear h hb hB hXb hBo hKU hYx hYX hx hd8 hk hBd fin hkd hs ht hn htn hY
  rw [HO.out.1] at hk0
  have hk1 : kd ≠ 1 := hk0 1 (by omega) (by omega)
  have n1 : (kd == 1) = false := by rw [beq_eq_false_iff_ne]; exact hk1
  have hk2 : kd ≠ 2 := hk0 2 (by omega) (by omega)
  have n2 : (kd == 2) = false := by rw [beq_eq_false_iff_ne]; exact hk2
  have hk3 : kd ≠ 3 := hk0 3 (by omega) (by omega)
  have n3 : (kd == 3) = false := by rw [beq_eq_false_iff_ne]; exact hk3
  have hk4 : kd ≠ 4 := hk0 4 (by omega) (by omega)
  have n4 : (kd == 4) = false := by rw [beq_eq_false_iff_ne]; exact hk4
  have hk5 : kd ≠ 5 := hk0 5 (by omega) (by omega)
  have n5 : (kd == 5) = false := by rw [beq_eq_false_iff_ne]; exact hk5
  have hk6 : kd ≠ 6 := hk0 6 (by omega) (by omega)
  have n6 : (kd == 6) = false := by rw [beq_eq_false_iff_ne]; exact hk6
  have hk7 : kd ≠ 7 := hk0 7 (by omega) (by omega)
  have n7 : (kd == 7) = false := by rw [beq_eq_false_iff_ne]; exact hk7
  clear hk0
  have HR : Hid (P.run o = P ∧ Q.run o = Q ∧ ansB P Q o = true) := Lib.hid (by
    unfold Pd.run ansB
    rw [HO.out.1, if_neg (by omega), if_neg hk5, if_neg hk6, if_neg hk7, if_neg (by omega), if_neg hk5, if_neg hk6, if_neg hk7, if_neg (by omega)]
    exact ⟨rfl, rfl, rfl⟩)
  have HE := Lib.hid (HF.out _ _ U true N M HR.out.1 HR.out.2.1 HR.out.2.2 HH.out.2.2.2.2.2.1 (by omega) (by omega) ⟨Nat.le_refl _, fun _ _ => rfl⟩)
  go_enter Try.func12, Try.ntmps12
  go_wp2_with fail
  go_ret
  exact HE.out
set_option maxRecDepth 100000 in
theorem does_any (h : Bo X w V db mb N M P Q) (hN : N < 1900000000000) (hM : M < 1900000000000) (o : Oq) (k : Nat) (hk : o.d.length = k) (hkb : k ≤ 140737488355327) (A : Option Addr) (c : Nat) (hx : Ns .u8 w w.heap.size A o.d) (hd8 : ∀ z ∈ o.d, 0 ≤ z ∧ z ≤ 255) :
    Calls Try.prog 12 #[hd db, .pointer (some ⟨mb, 0, none⟩), .agg #[.int .i64 o.kd, .string o.s, .string o.t, .slice A k c, .int .i64 o.n, .int .i64 o.torn]] V (DoesP X w V db mb N M P Q o) := by
  by_cases h1 : o.kd = 1
  · exact does_1 h hN hM o k hk hkb A c hx hd8 h1
  by_cases h2 : o.kd = 2
  · exact does_2 h hN hM o k hk hkb A c hx hd8 h2
  by_cases h3 : o.kd = 3
  · exact does_3 h hN hM o k hk hkb A c hx hd8 h3
  by_cases h4 : o.kd = 4
  · exact does_4 h hN hM o k hk hkb A c hx hd8 h4
  by_cases h5 : o.kd = 5
  · exact does_5 h hN hM o k hk hkb A c hx hd8 h5
  by_cases h6 : o.kd = 6
  · exact does_6 h hN hM o k hk hkb A c hx hd8 h6
  by_cases h7 : o.kd = 7
  · exact does_7 h hN hM o k hk hkb A c hx hd8 h7
  exact does_no h hN hM o k hk hkb A c hx hd8 fun j h8 h9 e => by omega
end
end Disk
end Go.Proofs.Ytdcppjpjlhbanaa
