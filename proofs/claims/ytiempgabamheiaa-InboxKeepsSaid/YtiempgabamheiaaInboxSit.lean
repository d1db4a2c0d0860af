/-
  An inbox in the world of a law; a far write by hand.
-/
import Derived.Test.YtiempgabamheiaaInboxWaits
namespace Go.Proofs.Ytiempgabamheiaa
namespace Inbox
open Go.RowKit Vers Span Blk
attribute [local go_sem ↓] Go.wp_at_zero Go.wp_at_succ

/-- The program's inbox, all of it made since w; the blocks X are none of its own. -/
def Sit (X : Nat → Prop) (w : World) (nb : Nat) (room : Int) (P : List Fr) (V : World) : Prop :=
  ∃ F, IN 81 35 F V nb room P ∧ (∀ k, F k → w.heap.size ≤ k) ∧ Below w.heap.size w V ∧ ∀ k, X k → k < V.heap.size ∧ ¬ F k
/-- The blocks X stay. -/
def Kept (X : Nat → Prop) (V V' : World) : Prop := V.heap.size ≤ V'.heap.size ∧ ∀ j, X j → V'.heap[j]? = V.heap[j]?
/-- The block of a row that is not empty. -/
def At (n : Nat) (A : Option Addr) (j : Nat) : Prop := 0 < n ∧ ∃ a, A = some a ∧ a.block = j
section
variable {X Y : Nat → Prop} {w V V' V'' : World} {nb : Nat} {room : Int} {P P' : List Fr}
theorem Kept.refl (V : World) : Kept X V V := ⟨Nat.le_refl _, fun _ _ => rfl⟩
theorem Kept.trans (h : Kept X V V') (h' : Kept X V' V'') : Kept X V V'' := ⟨Nat.le_trans h.1 h'.1, fun j hj => (h'.2 j hj).trans (h.2 j hj)⟩
theorem Kept.bn {B : Nat} {t : TypeId} {cs : List Value} (hk : Kept X V V') (hX : X B) (h : Bn B t cs V) : Bn B t cs V' := h.same (hk.2 B hX)
theorem Kept.ns {k : IntKind} {A : Option Addr} {zs : List Int} {n : Nat} (hk : Kept X V V') (hn : zs.length = n) (hX : ∀ j, At n A j → X j) (h : Ns k V V.heap.size A zs) : Ns k V' V'.heap.size A zs := fun hp => by
  obtain ⟨b, off, e, hb, hc⟩ := h hp
  exact ⟨b, off, e, Nat.lt_of_lt_of_le hb hk.1, fun j hj => (World.cell?_of_block (hk.2 b (hX b ⟨by omega, _, e, rfl⟩))).trans (hc j hj)⟩
theorem Sit.below (h : Sit X w nb room P V) (hb : Below V.heap.size V V') : Sit X w nb room P V' := by
  obtain ⟨F, h1, h2, h3, h4⟩ := h
  exact ⟨F, h1.below hb, h2, h3.trans (hb.mono h3.size), fun k hk => ⟨Nat.lt_of_lt_of_le (h4 k hk).1 hb.size, (h4 k hk).2⟩⟩
theorem Sit.less (h : Sit X w nb room P V) (hY : ∀ k, Y k → X k) : Sit Y w nb room P V := by
  obtain ⟨F, h1, h2, h3, h4⟩ := h
  exact ⟨F, h1, h2, h3, fun k hk => h4 k (hY k hk)⟩
/-- What is new, and what is old, is none of its own. -/
theorem Sit.hold (h : Sit X w nb room P V) (hb : Below V.heap.size V V') : Sit (fun k => X k ∨ (V.heap.size ≤ k ∧ k < V'.heap.size) ∨ k < w.heap.size) w nb room P V' := by
  obtain ⟨F, h1, h2, h3, h4⟩ := h
  refine ⟨F, h1.below hb, h2, h3.trans (hb.mono h3.size), fun k hk => ?_⟩
  rcases hk with hk | hk | hk
  · exact ⟨Nat.lt_of_lt_of_le (h4 k hk).1 hb.size, (h4 k hk).2⟩
  · exact ⟨hk.2, fun hf => by have := h1.lt k hf; omega⟩
  · exact ⟨by have := h3.size; have := hb.size; omega, fun hf => by have := h2 k hf; omega⟩
theorem Sit.old (h : Sit X w nb room P V) : Below w.heap.size w V := by
  obtain ⟨F, _, _, h3, _⟩ := h
  exact h3
theorem Sit.stp {F F' : Nat → Prop} (h2 : ∀ k, F k → w.heap.size ≤ k) (h3 : Below w.heap.size w V) (hX : ∀ k, X k → k < V.heap.size ∧ ¬ F k) (hI : IN 81 35 F' V' nb room P') (hs : Stp F V F' V') : Sit X w nb room P' V' ∧ Kept X V V' := by
  have h4 := hs.old h3 h2
  refine ⟨⟨F', hI, h4.2, h4.1, fun k hk => ⟨Nat.lt_of_lt_of_le (hX k hk).1 hs.1.size, fun hf => ?_⟩⟩, hs.1.size, fun k hk => hs.1.block k (hX k hk).1 (hX k hk).2⟩
  rcases hs.2 k hf with e | e
  · exact (hX k hk).2 e
  · have := (hX k hk).1
    omega
theorem Sit.new (room : Int) (hb : Below w.heap.size w V) : Calls Try.prog 10 #[.int .i64 room] V (fun e w' => ∃ nb, e = .returned (hd nb) ∧ Hid (Sit (fun k => k < V.heap.size) w nb (max room 0) [] w' ∧ Below V.heap.size V w')) :=
  (new_any room V).mono fun e w' ⟨F, nb, he, hh⟩ => ⟨nb, he, Lib.hid ⟨⟨F, hh.out.1, fun k hk => Nat.le_trans hb.size (hh.out.2.1 k hk), hb.trans (hh.out.2.2.mono hb.size), fun k hk => ⟨Nat.lt_of_lt_of_le hk hh.out.2.2.size, fun hf => by have := hh.out.2.1 k hf; omega⟩⟩, hh.out.2.2⟩⟩
theorem Sit.take (h : Sit X w nb room P V) (hP : ∀ y ∈ P, okF y) (hPl : P.length ≤ 1759218604390) (fr sq : Int) (key : ByteArray) (Av : Option Addr) (cv m : Nat) (lv : List Vr) (hm : lv.length = m) (Ar : Option Addr) (cr kr : Nat) (rt : List Int) (hkr : rt.length = kr) (hz : SzF ((fr, sq), (key, lv), rt)) (hv : Vs V 0 V.heap.size Av lv) (hr : Ns .i64 V V.heap.size Ar rt)
    (A : Option Addr) (c n : Nat) (v : List Int) (hn : v.length = n) (hbig : n ≤ 140737488355328) (hvv : Ns .i64 V V.heap.size A v) {a : Int} (hF : takeF room P v ((fr, sq), (key, lv), rt) = (a, P')) :
    Calls Try.prog 11 #[hd nb, .agg #[.int .i64 fr, .int .i64 sq, .string key, .slice Av m cv, .slice Ar kr cr], .slice A n c] V (fun e w' => e = .returned (.int .i64 a) ∧ Hid (Sit X w nb room P' w' ∧ Kept X V w')) := by
  obtain ⟨F, h1, h2, h3, h4⟩ := h
  refine (take_any h1 hP hPl fr sq key Av cv m lv hm Ar cr kr rt hkr hz hv hr A c n v hn hbig hvv).mono fun e w' ⟨F', he, hh⟩ => ?_
  rw [hF] at he hh
  exact ⟨he, Lib.hid (Sit.stp h2 h3 h4 hh.out.1 hh.out.2)⟩
/-- Ready, where one may be done. -/
theorem Sit.ready (h : Sit X w nb room P V) (hP : ∀ y ∈ P, okF y) (hPl : P.length ≤ 1759218604390) (A : Option Addr) (c n : Nat) (v : List Int) (hn : v.length = n) (hbig : n ≤ 140737488355328) (hvv : Ns .i64 V V.heap.size A v) {x : Fr} (hF : dropF 1 (fun x => decide (mayF v x)) P = ([x], P')) :
    Calls Try.prog 13 #[hd nb, .slice A n c] V (fun e w' => ∃ (a1 : Option Addr) (c1 : Nat) (a2 : Option Addr) (c2 kr : Nat), e = .returned (.tuple #[.agg #[.int .i64 x.1.1, .int .i64 x.1.2, .string x.2.1.1, .slice a1 1 c1, .slice a2 kr c2], .bool true]) ∧ Hid ((Sit X w nb room P' w' ∧ Kept X V w') ∧ x.2.2.length = kr ∧ x ∈ P ∧ mayF v x ∧ SzF x ∧ Vs w' 0 w'.heap.size a1 x.2.1.2 ∧ Ns .i64 w' w'.heap.size a2 x.2.2 ∧ 1 ≤ c1)) := by
  obtain ⟨F, h1, h2, h3, h4⟩ := h
  refine (ready_any h1 hP hPl A c n v hn hbig hvv).mono fun e w' ⟨⟨F', hh⟩, hr⟩ => ?_
  rw [hF] at hh
  rcases hr with ⟨hc, _⟩ | ⟨y, a1, c1, a2, c2, kr, he, hd⟩
  · rw [hF] at hc
    cases hc
  · obtain ⟨g1, g2, g3, g4, g5, L, B, g6, g7, _⟩ := hd.out
    rw [hF] at g1
    injection g1 with g1
    subst g1
    have g8 := g6.2.2.2
    simp only [(hP x g3).2] at g8
    exact ⟨a1, c1, a2, c2, kr, he, Lib.hid ⟨Sit.stp h2 h3 h4 hh.out.1 hh.out.2, g2, g3, g4, g5, (g6.1.less (Nat.zero_le _)).more g7, g6.2.1.more g7, g8⟩⟩
/-- Ready, where none may be done. -/
theorem Sit.ready0 (h : Sit X w nb room P V) (hP : ∀ y ∈ P, okF y) (hPl : P.length ≤ 1759218604390) (A : Option Addr) (c n : Nat) (v : List Int) (hn : v.length = n) (hbig : n ≤ 140737488355328) (hvv : Ns .i64 V V.heap.size A v) (hF : dropF 1 (fun x => decide (mayF v x)) P = ([], P)) :
    Calls Try.prog 13 #[hd nb, .slice A n c] V (fun e w' => e = .returned (.tuple #[.agg #[.int .i64 0, .int .i64 0, .string ⟨#[]⟩, .slice none 0 0, .slice none 0 0], .bool false]) ∧ Hid (Sit X w nb room P w' ∧ Kept X V w')) := by
  obtain ⟨F, h1, h2, h3, h4⟩ := h
  refine (ready_any h1 hP hPl A c n v hn hbig hvv).mono fun e w' ⟨⟨F', hh⟩, hr⟩ => ?_
  rw [hF] at hh
  rcases hr with ⟨_, he⟩ | ⟨y, a1, c1, a2, c2, kr, he, hd⟩
  · exact ⟨he, Lib.hid (Sit.stp h2 h3 h4 hh.out.1 hh.out.2)⟩
  · have g1 := hd.out.1
    rw [hF] at g1
    cases g1
theorem Sit.clean (h : Sit X w nb room P V) (hP : ∀ y ∈ P, okF y) (hPl : P.length ≤ 1759218604390) (A : Option Addr) (c n : Nat) (v : List Int) (hn : v.length = n) (hbig : n ≤ 140737488355328) (hvv : Ns .i64 V V.heap.size A v) (k : Nat) (hk : (P.filter fun x => decide (covF v x)).length = k) :
    Calls Try.prog 17 #[hd nb, .slice A n c] V (fun e w' => ∃ A1 c1, e = .returned (.slice A1 k c1) ∧ Hid ((Sit X w nb room (P.filter fun x => !decide (covF v x)) w' ∧ Kept X V w') ∧ Fs w' w'.heap.size A1 (P.filter fun x => decide (covF v x)))) := by
  obtain ⟨F, h1, h2, h3, h4⟩ := h
  refine (clean_any h1 hP hPl A c n v hn hbig hvv k hk).mono fun e w' ⟨A1, c1, he, hh⟩ => ?_
  obtain ⟨_, F', ⟨g1, g2⟩, g3⟩ := hh.out
  exact ⟨A1, c1, he, Lib.hid ⟨Sit.stp h2 h3 h4 g1 g2, g3.fs⟩⟩
theorem Sit.waits (h : Sit X w nb room P V) (hP : ∀ y ∈ P, okF y) (hPl : P.length ≤ 1759218604390) (k : Nat) (hk : P.length = k) :
    Calls Try.prog 19 #[hd nb] V (fun e w' => ∃ A1 c1, e = .returned (.slice A1 k c1) ∧ Hid (Fs w' w'.heap.size A1 P ∧ Below V.heap.size V w' ∧ Sit X w nb room P w')) :=
  let ⟨_, h1, _⟩ := h
  (waits_any h1 hP hPl k hk).mono fun _ _ ⟨A1, c1, he, hh, hb⟩ => ⟨A1, c1, he, Lib.hid ⟨hh.out.2.1.fs, hb, h.below hb⟩⟩
/-- The same, with the blocks of what is told. -/
theorem Sit.waitsP (h : Sit X w nb room P V) (hP : ∀ y ∈ P, okF y) (hPl : P.length ≤ 1759218604390) (k : Nat) (hk : P.length = k) :
    Calls Try.prog 19 #[hd nb] V (fun e w' => ∃ A1 c1, e = .returned (.slice A1 k c1) ∧ Hid (FsP (fun k => V.heap.size ≤ k) w' A1 P ∧ Below V.heap.size V w' ∧ Sit (fun k => V.heap.size ≤ k ∧ k < w'.heap.size) w nb room P w')) :=
  let ⟨_, h1, _⟩ := h
  (waits_any h1 hP hPl k hk).mono fun _ _ ⟨A1, c1, he, hh, hb⟩ => ⟨A1, c1, he, Lib.hid ⟨hh.out.2.1, hb, (h.hold hb).less fun _ hk => .inr (.inl hk)⟩⟩
/-- The same, with what can be written. -/
theorem Sit.waitsT (h : Sit X w nb room P V) (hP : ∀ y ∈ P, okF y) (hPl : P.length ≤ 1759218604390) (k : Nat) (hk : P.length = k) :
    Calls Try.prog 19 #[hd nb] V (fun e w' => ∃ A1 c1, e = .returned (.slice A1 k c1) ∧ Hid (FsP (fun k => V.heap.size ≤ k) w' A1 P ∧ Below V.heap.size V w' ∧ Sit (fun j => X j ∨ (V.heap.size ≤ j ∧ j < w'.heap.size)) w nb room P w' ∧ TnF w' A1 P)) :=
  let ⟨_, h1, _⟩ := h
  (waits_any h1 hP hPl k hk).mono fun _ _ ⟨A1, c1, he, hh, hb⟩ => ⟨A1, c1, he, Lib.hid ⟨hh.out.2.1, hb, (h.hold hb).less fun _ hk => by
    rcases hk with hk | hk
    · exact .inl hk
    · exact .inr (.inl hk), hh.out.2.2⟩⟩
end
theorem FsP.kept {X S : Nat → Prop} {w w' : World} {A : Option Addr} {l : List Fr} (h : FsP S w A l) (hk : Kept X w w') (hS : ∀ k, k < w.heap.size → S k → X k) : FsP S w' A l := fun hp => by
  obtain ⟨b, off, e, h1, h2⟩ := h hp
  have hs := hk.1
  refine ⟨b, off, e, ⟨h1.1, by omega⟩, fun j x hx => ?_⟩
  obtain ⟨p1, p2, g1, g2, L, B, g3, g4, g5⟩ := h2 j x hx
  exact ⟨p1, p2, fun r u hu => (World.cell?_of_block (hk.2 b (hS b h1.2 h1.1))).trans (g1 r u hu), g2, L, B, g3.heap fun k a b => hk.2 k (hS k (by omega) (g5 k a b)), by omega, g5⟩
/-- What is kept is right. -/
theorem take_ok {room : Int} {P P' : List Fr} {v : List Int} {x : Fr} {a : Int} (hP : ∀ y ∈ P, okF y) (h : takeF room P v x = (a, P')) : ∀ y ∈ P', okF y := by
  unfold takeF at h
  intro y hy
  split at h
  · split at h
    · injection h with _ h
      subst h
      exact hP y hy
    · split at h
      · injection h with _ h
        subst h
        exact hP y hy
      · split at h
        · injection h with _ h
          subst h
          exact hP y hy
        · injection h with _ h
          subst h
          rcases List.mem_append.1 hy with h | h
          · exact hP y h
          · rw [List.mem_singleton.1 h]
            assumption
  · injection h with _ h
    subst h
    exact hP y hy
theorem take_len {room : Int} {P P' : List Fr} {v : List Int} {x : Fr} {a : Int} (h : takeF room P v x = (a, P')) : P'.length ≤ P.length + 1 := by
  unfold takeF at h
  split at h
  · split at h
    · injection h with _ h
      subst h
      omega
    · split at h
      · injection h with _ h
        subst h
        omega
      · split at h
        · injection h with _ h
          subst h
          omega
        · injection h with _ h
          subst h
          simp
  · injection h with _ h
    subst h
    omega
theorem ns_two (w : World) (x y : Int) : Ns .i64 (w.alloc (.cells #[.int .i64 x, .int .i64 y] 2)) (w.alloc (.cells #[.int .i64 x, .int .i64 y] 2)).heap.size (some ⟨w.heap.size, 0, none⟩) [x, y] := fun _ =>
  ⟨w.heap.size, 0, rfl, by simp, fun j hj => by
    match j, hj with
    | 0, _ => simp
    | 1, _ => simp⟩
/-- A far write by hand. -/
def fx (s n : Int) : Fr := ((2, n), (⟨#[107]⟩, [⟨s, n, [], false, ⟨#[]⟩⟩]), [])
set_option maxRecDepth 100000 in
theorem far_any (s n : Int) (w : World) : Calls Try.prog 30 #[.int .i64 s, .int .i64 n] w (fun e w' => ∃ A1, e = .returned (.agg #[.int .i64 2, .int .i64 n, .string ⟨#[107]⟩, .slice A1 1 1, .slice none 0 0]) ∧ Hid (Vs w' 0 w'.heap.size A1 [⟨s, n, [], false, ⟨#[]⟩⟩]) ∧ Below w.heap.size w w') := by
  obtain ⟨U, hU⟩ : ∃ U, w.alloc (.cells #[.int .i64 0, .int .i64 0, .string ⟨#[]⟩, .slice none 0 0, .slice none 0 0] 35) = U := ⟨_, rfl⟩
  have bU : Below w.heap.size w U := by rw [← hU]; exact (Below.refl _ w).alloc (Nat.le_refl _) _
  have sU : U.heap.size = w.heap.size + 1 := by rw [← hU]; simp
  have BU : Bn w.heap.size 35 [.int .i64 0, .int .i64 0, .string ⟨#[]⟩, .slice none 0 0, .slice none 0 0] U := by rw [← hU]; exact heap_alloc_new w _
  obtain ⟨V, hV⟩ : ∃ V, U.alloc (.cells #[.int .i64 s, .int .i64 n, .slice none 0 0, .bool false, .string ⟨#[]⟩] 59) = V := ⟨_, rfl⟩
  have bV : Below U.heap.size U V := by rw [← hV]; exact (Below.refl _ U).alloc (Nat.le_refl _) _
  have BV : Bn U.heap.size 59 [.int .i64 s, .int .i64 n, .slice none 0 0, .bool false, .string ⟨#[]⟩] V := by rw [← hV]; exact heap_alloc_new U _
  rw [sU] at BV
  have BU1 := BU.same (bV.block _ BU.lt)
  have bW : Below w.heap.size w V := bU.trans (bV.mono bU.size)
  have x0 := (BU1.cell 0).trans rfl
  have x1 := (BU1.cell 1).trans rfl
  have x2 := (BU1.cell 2).trans rfl
  have x3 := (BU1.cell 3).trans rfl
  have x4 := (BU1.cell 4).trans rfl
  have f0 := BU1.frozen 0
  have f1 := BU1.frozen 1
  have f2 := BU1.frozen 2
  have f3 := BU1.frozen 3
  have f4 := BU1.frozen 4
  have BY := five_bn BU1 (.int .i64 2) (.int .i64 n) (.string ⟨#[107]⟩) (.slice (some ⟨w.heap.size + 1, 0, none⟩) 1 1) (.slice none 0 0)
  have gY := five_grown V w.heap.size (.int .i64 2) (.int .i64 n) (.string ⟨#[107]⟩) (.slice (some ⟨w.heap.size + 1, 0, none⟩) 1 1) (.slice none 0 0)
  obtain ⟨Y, hY⟩ : ∃ Y, five V w.heap.size (.int .i64 2) (.int .i64 n) (.string ⟨#[107]⟩) (.slice (some ⟨w.heap.size + 1, 0, none⟩) 1 1) (.slice none 0 0) = Y := ⟨_, rfl⟩
  rw [hY] at BY gY
  unfold five at hY
  have y0 := (BY.cell 0).trans rfl
  have y1 := (BY.cell 1).trans rfl
  have y2 := (BY.cell 2).trans rfl
  have y3 := (BY.cell 3).trans rfl
  have y4 := (BY.cell 4).trans rfl
  have hvs : Vs Y 0 Y.heap.size (some ⟨w.heap.size + 1, 0, none⟩) [⟨s, n, [], false, ⟨#[]⟩⟩] := fun _ => by
    have BVY := BV.kept gY (by intro q; injection q with q; omega)
    refine ⟨w.heap.size + 1, 0, rfl, Nat.zero_le _, BVY.lt, fun j hj => ?_⟩
    obtain rfl : j = 0 := by simpa using hj
    exact ⟨none, 0, (BVY.cell 0).trans rfl, (BVY.cell 1).trans rfl, (BVY.cell 2).trans rfl, (BVY.cell 3).trans rfl, (BVY.cell 4).trans rfl, fun h => absurd h (by simp), by simp, by simp, Nat.zero_le _, fun h => absurd h (by simp)⟩
  have HF := Lib.hid (And.intro hvs (bW.grown gY bW.size fun i hi => by injection hi with hi; omega))
  clear hvs gY BY BU1 bW BU BV bU bV
  go_enter Try.func30, Try.ntmps30
  go_wp2_with fail
  refine bodyPost_ret (v := .agg #[.int .i64 2, .int .i64 n, .string ⟨#[107]⟩, .slice (some ⟨w.heap.size + 1, 0, none⟩) 1 1, .slice none 0 0]) ?_ rfl ⟨_, rfl, Lib.hid HF.out.1, HF.out.2⟩
  rw [Blk.results_cell1 rfl]
  go_simp
end Inbox
end Go.Proofs.Ytiempgabamheiaa
