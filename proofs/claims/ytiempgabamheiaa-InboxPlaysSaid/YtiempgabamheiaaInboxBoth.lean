/-
  The program's inbox and the document's, side by side.
-/
import Derived.Test.YtiempgabamheiaaInboxArgs
import Derived.Test.YtiempgabamheiaaInboxLists
namespace Go.Proofs.Ytiempgabamheiaa
namespace Inbox
open Go.RowKit Vers Span Blk

/-- Both in one world; the blocks X are none of theirs. -/
def St (F G X : Nat → Prop) (w V : World) (pb rb : Nat) (room : Int) (P Q : List Fr) : Prop :=
  IN 81 35 F V pb (max room 0) P ∧ IN 29 41 G V rb room Q ∧ Below w.heap.size w V ∧ (∀ j, F j → w.heap.size ≤ j) ∧ (∀ j, G j → w.heap.size ≤ j) ∧ (∀ j, F j → ¬ G j) ∧ ∀ j, X j → j < V.heap.size ∧ ¬ F j ∧ ¬ G j
theorem take_max {room : Int} {P : List Fr} {v : List Int} {x : Fr} : takeF (max room 0) P v x = takeF room P v x := by
  unfold takeF
  have h : (max room 0 ≤ (P.length : Int)) ↔ (room ≤ (P.length : Int)) := by omega
  simp only [h]
section
variable {X Y F F' G G' : Nat → Prop} {w V V' : World} {pb rb : Nat} {room : Int} {P P' Q Q' : List Fr}
theorem St.old (h : St F G X w V pb rb room P Q) : Below w.heap.size w V := h.2.2.1
theorem St.apart (h : St F G X w V pb rb room P Q) : ∀ j, F j → ¬ G j := h.2.2.2.2.2.1
theorem St.below (h : St F G X w V pb rb room P Q) (hb : Below V.heap.size V V') : St F G X w V' pb rb room P Q := by
  obtain ⟨h1, h2, h3, h4, h5, h6, h7⟩ := h
  exact ⟨h1.below hb, h2.below hb, h3.trans (hb.mono h3.size), h4, h5, h6, fun j hj => ⟨Nat.lt_of_lt_of_le (h7 j hj).1 hb.size, (h7 j hj).2⟩⟩
theorem St.less (h : St F G X w V pb rb room P Q) (hY : ∀ j, Y j → X j) : St F G Y w V pb rb room P Q := by
  obtain ⟨h1, h2, h3, h4, h5, h6, h7⟩ := h
  exact ⟨h1, h2, h3, h4, h5, h6, fun j hj => h7 j (hY j hj)⟩
/-- What is new is none of theirs. -/
theorem St.hold (h : St F G X w V pb rb room P Q) (hb : Below V.heap.size V V') : St F G (fun j => X j ∨ (V.heap.size ≤ j ∧ j < V'.heap.size)) w V' pb rb room P Q := by
  obtain ⟨g1, g2, g3, g4, g5, g6, g7⟩ := h
  refine ⟨g1.below hb, g2.below hb, g3.trans (hb.mono g3.size), g4, g5, g6, fun j hj => ?_⟩
  rcases hj with hj | hj
  · exact ⟨Nat.lt_of_lt_of_le (g7 j hj).1 hb.size, (g7 j hj).2⟩
  · exact ⟨hj.2, fun hf => by have := g1.lt _ hf; omega, fun hg => by have := g2.lt _ hg; omega⟩
theorem St.stepF (h : St F G X w V pb rb room P Q) (h1 : IN 81 35 F' V' pb (max room 0) P') (h2 : Stp F V F' V') : St F' G X w V' pb rb room P' Q ∧ Kept X V V' := by
  obtain ⟨_, hR, hb, hf, hg, hd, hX⟩ := h
  have ho := h2.old hb hf
  refine ⟨⟨h1, hR.chg h2.1 fun k hk hF => hd k hF hk, ho.1, ho.2, hg, fun j hj hG => ?_, fun j hj => ⟨Nat.lt_of_lt_of_le (hX j hj).1 h2.1.size, fun hF => ?_, (hX j hj).2.2⟩⟩, h2.1.size, fun j hj => h2.1.block j (hX j hj).1 (hX j hj).2.1⟩
  · rcases h2.2 j hj with e | e
    · exact hd j e hG
    · have := hR.lt j hG
      omega
  · rcases h2.2 j hF with e | e
    · exact (hX j hj).2.1 e
    · have := (hX j hj).1
      omega
theorem St.stepG (h : St F G X w V pb rb room P Q) (h1 : IN 29 41 G' V' rb room Q') (h2 : Stp G V G' V') : St F G' X w V' pb rb room P Q' ∧ Kept X V V' := by
  obtain ⟨h0, _, hb, hf, hg, hd, hX⟩ := h
  have ho := h2.old hb hg
  refine ⟨⟨h0.chg h2.1 hd, h1, ho.1, hf, ho.2, fun j hj hG => ?_, fun j hj => ⟨Nat.lt_of_lt_of_le (hX j hj).1 h2.1.size, (hX j hj).2.1, fun hG => ?_⟩⟩, h2.1.size, fun j hj => h2.1.block j (hX j hj).1 (hX j hj).2.2⟩
  · rcases h2.2 j hG with e | e
    · exact hd j hj e
    · have := h0.lt j hj
      omega
  · rcases h2.2 j hG with e | e
    · exact (hX j hj).2.2 e
    · have := (hX j hj).1
      omega
theorem St.take (h : St F G X w V pb rb room P Q) (hP : ∀ y ∈ P, okF y) (hPl : P.length ≤ 1759218604390) (fr sq : Int) (key : ByteArray) (Av : Option Addr) (cv m : Nat) (lv : List Vr) (hm : lv.length = m) (Ar : Option Addr) (cr kr : Nat) (rt : List Int) (hkr : rt.length = kr) (hz : SzF ((fr, sq), (key, lv), rt)) (hv : Vs V 0 V.heap.size Av lv) (hr : Ns .i64 V V.heap.size Ar rt)
    (A : Option Addr) (c n : Nat) (v : List Int) (hn : v.length = n) (hbig : n ≤ 140737488355328) (hvv : Ns .i64 V V.heap.size A v) {a : Int} (hF : takeF room P v ((fr, sq), (key, lv), rt) = (a, P')) :
    Calls Try.prog 11 #[hd pb, .agg #[.int .i64 fr, .int .i64 sq, .string key, .slice Av m cv, .slice Ar kr cr], .slice A n c] V (fun e w' => ∃ F', e = .returned (.int .i64 a) ∧ Hid (St F' G X w w' pb rb room P' Q ∧ Kept X V w')) := by
  refine (take_any h.1 hP hPl fr sq key Av cv m lv hm Ar cr kr rt hkr hz hv hr A c n v hn hbig hvv).mono fun e w' ⟨F', he, hh⟩ => ?_
  rw [take_max, hF] at he hh
  exact ⟨F', he, Lib.hid (h.stepF hh.out.1 hh.out.2)⟩
theorem St.rtake (h : St F G X w V pb rb room P Q) (hP : ∀ y ∈ Q, okF y) (hPl : Q.length ≤ 1759218604390) (fr sq : Int) (key : ByteArray) (Av : Option Addr) (cv m : Nat) (lv : List Vr) (hm : lv.length = m) (Ar : Option Addr) (cr kr : Nat) (rt : List Int) (hkr : rt.length = kr) (hz : SzF ((fr, sq), (key, lv), rt)) (hv : Vs V 0 V.heap.size Av lv) (hr : Ns .i64 V V.heap.size Ar rt)
    (A : Option Addr) (c n : Nat) (v : List Int) (hn : v.length = n) (hbig : n ≤ 140737488355328) (hvv : Ns .i64 V V.heap.size A v) {a : Int} (hF : takeF room Q v ((fr, sq), (key, lv), rt) = (a, Q')) :
    Calls Try.prog 12 #[hd rb, .agg #[.int .i64 fr, .int .i64 sq, .string key, .slice Av m cv, .slice Ar kr cr], .slice A n c] V (fun e w' => ∃ G', e = .returned (.int .i64 a) ∧ Hid (St F G' X w w' pb rb room P Q' ∧ Kept X V w')) := by
  refine (rtake_any h.2.1 hP hPl fr sq key Av cv m lv hm Ar cr kr rt hkr hz hv hr A c n v hn hbig hvv).mono fun e w' ⟨F', he, hh⟩ => ?_
  rw [hF] at he hh
  exact ⟨F', he, Lib.hid (h.stepG hh.out.1 hh.out.2)⟩
/-- What Ready answers: a far write in the blocks S. -/
def Got (S : Nat → Prop) (w : World) (x : Fr) (a1 : Option Addr) (c1 : Nat) (a2 : Option Addr) (c2 kr : Nat) : Prop := x.2.2.length = kr ∧ SzF x ∧ ∃ L B, Hd w L B (x, (a1, c1), (a2, c2)) ∧ B ≤ w.heap.size ∧ ∀ k, L ≤ k → k < B → S k
theorem Got.chg {S : Nat → Prop} {x : Fr} {a1 a2 : Option Addr} {c1 c2 kr : Nat} (h : Got S V x a1 c1 a2 c2 kr) (hc : Chg G V V') (hS : ∀ k, S k → ¬ G k) : Got S V' x a1 c1 a2 c2 kr := by
  obtain ⟨h1, h2, L, B, h3, h4, h5⟩ := h
  have := hc.size
  exact ⟨h1, h2, L, B, h3.heap fun k a b => hc.block k (by omega) (hS k (h5 k a b)), by omega, h5⟩
theorem St.ready (h : St F G X w V pb rb room P Q) (hP : ∀ y ∈ P, okF y) (hPl : P.length ≤ 1759218604390) (A : Option Addr) (c n : Nat) (v : List Int) (hn : v.length = n) (hbig : n ≤ 140737488355328) (hvv : Ns .i64 V V.heap.size A v) {x : Fr} (hF : dropF 1 (fun x => decide (mayF v x)) P = ([x], P')) :
    Calls Try.prog 13 #[hd pb, .slice A n c] V (fun e w' => ∃ (F' : Nat → Prop) (a1 : Option Addr) (c1 : Nat) (a2 : Option Addr) (c2 kr : Nat), e = .returned (.tuple #[.agg #[.int .i64 x.1.1, .int .i64 x.1.2, .string x.2.1.1, .slice a1 1 c1, .slice a2 kr c2], .bool true]) ∧ Hid ((St F' G X w w' pb rb room P' Q ∧ Kept X V w') ∧ Got F w' x a1 c1 a2 c2 kr)) := by
  refine (ready_any h.1 hP hPl A c n v hn hbig hvv).mono fun e w' ⟨⟨F', hh⟩, hr⟩ => ?_
  rw [hF] at hh
  rcases hr with ⟨hc, _⟩ | ⟨y, a1, c1, a2, c2, kr, he, hd⟩
  · rw [hF] at hc
    cases hc
  · obtain ⟨g1, g2, g3, g4, g5, g6⟩ := hd.out
    rw [hF] at g1
    injection g1 with g1
    subst g1
    exact ⟨F', a1, c1, a2, c2, kr, he, Lib.hid ⟨h.stepF hh.out.1 hh.out.2, g2, g5, g6⟩⟩
theorem St.rready (h : St F G X w V pb rb room P Q) (hP : ∀ y ∈ Q, okF y) (hPl : Q.length ≤ 1759218604390) (A : Option Addr) (c n : Nat) (v : List Int) (hn : v.length = n) (hbig : n ≤ 140737488355328) (hvv : Ns .i64 V V.heap.size A v) {x : Fr} (hF : dropF 1 (fun x => decide (mayF v x)) Q = ([x], Q')) :
    Calls Try.prog 14 #[hd rb, .slice A n c] V (fun e w' => ∃ (G' : Nat → Prop) (a1 : Option Addr) (c1 : Nat) (a2 : Option Addr) (c2 kr : Nat), e = .returned (.tuple #[.agg #[.int .i64 x.1.1, .int .i64 x.1.2, .string x.2.1.1, .slice a1 1 c1, .slice a2 kr c2], .bool true]) ∧ Hid ((St F G' X w w' pb rb room P Q' ∧ Kept X V w') ∧ Got G w' x a1 c1 a2 c2 kr ∧ Chg G V w')) := by
  refine (rready_any h.2.1 hP hPl A c n v hn hbig hvv).mono fun e w' ⟨⟨F', hh⟩, hr⟩ => ?_
  rw [hF] at hh
  rcases hr with ⟨hc, _⟩ | ⟨y, a1, c1, a2, c2, kr, he, hd⟩
  · rw [hF] at hc
    cases hc
  · obtain ⟨g1, g2, g3, g4, g5, g6⟩ := hd.out
    rw [hF] at g1
    injection g1 with g1
    subst g1
    exact ⟨F', a1, c1, a2, c2, kr, he, Lib.hid ⟨h.stepG hh.out.1 hh.out.2, ⟨g2, g5, g6⟩, hh.out.2.1⟩⟩
theorem St.ready0 (h : St F G X w V pb rb room P Q) (hP : ∀ y ∈ P, okF y) (hPl : P.length ≤ 1759218604390) (A : Option Addr) (c n : Nat) (v : List Int) (hn : v.length = n) (hbig : n ≤ 140737488355328) (hvv : Ns .i64 V V.heap.size A v) (hF : dropF 1 (fun x => decide (mayF v x)) P = ([], P)) :
    Calls Try.prog 13 #[hd pb, .slice A n c] V (fun e w' => ∃ F', e = .returned (.tuple #[.agg #[.int .i64 0, .int .i64 0, .string ⟨#[]⟩, .slice none 0 0, .slice none 0 0], .bool false]) ∧ Hid (St F' G X w w' pb rb room P Q ∧ Kept X V w')) := by
  refine (ready_any h.1 hP hPl A c n v hn hbig hvv).mono fun e w' ⟨⟨F', hh⟩, hr⟩ => ?_
  rw [hF] at hh
  rcases hr with ⟨_, he⟩ | ⟨y, a1, c1, a2, c2, kr, he, hd⟩
  · exact ⟨F', he, Lib.hid (h.stepF hh.out.1 hh.out.2)⟩
  · have g1 := hd.out.1
    rw [hF] at g1
    cases g1
theorem St.rready0 (h : St F G X w V pb rb room P Q) (hP : ∀ y ∈ Q, okF y) (hPl : Q.length ≤ 1759218604390) (A : Option Addr) (c n : Nat) (v : List Int) (hn : v.length = n) (hbig : n ≤ 140737488355328) (hvv : Ns .i64 V V.heap.size A v) (hF : dropF 1 (fun x => decide (mayF v x)) Q = ([], Q)) :
    Calls Try.prog 14 #[hd rb, .slice A n c] V (fun e w' => ∃ G', e = .returned (.tuple #[.agg #[.int .i64 0, .int .i64 0, .string ⟨#[]⟩, .slice none 0 0, .slice none 0 0], .bool false]) ∧ Hid (St F G' X w w' pb rb room P Q ∧ Kept X V w')) := by
  refine (rready_any h.2.1 hP hPl A c n v hn hbig hvv).mono fun e w' ⟨⟨F', hh⟩, hr⟩ => ?_
  rw [hF] at hh
  rcases hr with ⟨_, he⟩ | ⟨y, a1, c1, a2, c2, kr, he, hd⟩
  · exact ⟨F', he, Lib.hid (h.stepG hh.out.1 hh.out.2)⟩
  · have g1 := hd.out.1
    rw [hF] at g1
    cases g1
theorem St.clean (h : St F G X w V pb rb room P Q) (hP : ∀ y ∈ P, okF y) (hPl : P.length ≤ 1759218604390) (A : Option Addr) (c n : Nat) (v : List Int) (hn : v.length = n) (hbig : n ≤ 140737488355328) (hvv : Ns .i64 V V.heap.size A v) (k : Nat) (hk : (P.filter fun x => decide (covF v x)).length = k) :
    Calls Try.prog 17 #[hd pb, .slice A n c] V (fun e w' => ∃ F' A1 c1, e = .returned (.slice A1 k c1) ∧ Hid ((St F' G X w w' pb rb room (P.filter fun x => !decide (covF v x)) Q ∧ Kept X V w') ∧ FsP F' w' A1 (P.filter fun x => decide (covF v x)))) := by
  refine (clean_any h.1 hP hPl A c n v hn hbig hvv k hk).mono fun e w' ⟨A1, c1, he, hh⟩ => ?_
  obtain ⟨_, F', ⟨g1, g2⟩, g3⟩ := hh.out
  exact ⟨F', A1, c1, he, Lib.hid ⟨h.stepF g1 g2, g3⟩⟩
theorem St.rclean (h : St F G X w V pb rb room P Q) (hP : ∀ y ∈ Q, okF y) (hPl : Q.length ≤ 1759218604390) (A : Option Addr) (c n : Nat) (v : List Int) (hn : v.length = n) (hbig : n ≤ 140737488355328) (hvv : Ns .i64 V V.heap.size A v) (k : Nat) (hk : (Q.filter fun x => decide (covF v x)).length = k) :
    Calls Try.prog 18 #[hd rb, .slice A n c] V (fun e w' => ∃ G' A1 c1, e = .returned (.slice A1 k c1) ∧ Hid ((St F G' X w w' pb rb room P (Q.filter fun x => !decide (covF v x)) ∧ Kept X V w') ∧ FsP G' w' A1 (Q.filter fun x => decide (covF v x)) ∧ Chg G V w')) := by
  refine (rclean_any h.2.1 hP hPl A c n v hn hbig hvv k hk).mono fun e w' ⟨A1, c1, he, hh⟩ => ?_
  obtain ⟨_, F', ⟨g1, g2⟩, g3⟩ := hh.out
  exact ⟨F', A1, c1, he, Lib.hid ⟨h.stepG g1 g2, g3, g2.1⟩⟩
theorem St.waits (h : St F G X w V pb rb room P Q) (hP : ∀ y ∈ P, okF y) (hPl : P.length ≤ 1759218604390) (k : Nat) (hk : P.length = k) :
    Calls Try.prog 19 #[hd pb] V (fun e w' => ∃ A1 c1, e = .returned (.slice A1 k c1) ∧ Hid (Fs w' w'.heap.size A1 P ∧ Below V.heap.size V w')) :=
  (waits_any h.1 hP hPl k hk).mono fun _ _ ⟨A1, c1, he, hh, hb⟩ => ⟨A1, c1, he, Lib.hid ⟨hh.out.2.fs, hb⟩⟩
/-- What the document's inbox has, as it is read. -/
theorem St.list (h : St F G X w V pb rb room P Q) (k : Nat) (hk : Q.length = k) : ∃ A c, V.cell? ⟨rb, 1, none⟩ = some (.slice A k c) ∧ Fs V V.heap.size A Q := by
  obtain ⟨A, c, n, l, e, hS⟩ := h.2.1
  have hn : n = k := by rw [← hS.2.1.1, ← hk, ← e, List.length_map]
  subst hn
  have := hS.fs
  rw [e] at this
  exact ⟨A, c, (hS.1.1.cell 1).trans rfl, this⟩
end
end Inbox
end Go.Proofs.Ytiempgabamheiaa
