/-
  The reader of layer 6: its block, and what taking comes to; numbers and texts.
-/
import Derived.Test.YtjifklojbbocfaaCodeParse
import Derived.Test.YtjifklojbbocfaaRows
import Derived.RangeFuncBox
import Derived.WalkLawsBesides
import Derived.Deep.RegionHeld3
import Derived.Deep.DrawnRows
namespace Go.Proofs.Ytjifklojbbocfaa
namespace Code
open Go.RowKit Num Span
attribute [local go_sem ↓] Go.wp_at_zero Go.wp_at_succ

/-- Block g is the reader's: the bytes, and how far it is. -/
def Rd (g : Nat) (A : Option Addr) (c n p : Nat) (w : World) : Prop := w.heap[g]? = some (.cells #[.slice A n c, .int .i64 p] 95 (0, 0))
section
variable {w w' : World} {g n p c : Nat} {A : Option Addr}
theorem Rd.lt (h : Rd g A c n p w) : g < w.heap.size := (Array.getElem?_eq_some_iff.1 h).1
theorem Rd.c0 (h : Rd g A c n p w) : w.cell? ⟨g, 0, none⟩ = some (.slice A n c) := by simp [World.cell?, show w.heap[g]? = _ from h]
theorem Rd.c1 (h : Rd g A c n p w) : w.cell? ⟨g, 1, none⟩ = some (.int .i64 p) := by simp [World.cell?, show w.heap[g]? = _ from h]
theorem Rd.frozen (h : Rd g A c n p w) (j : Nat) : w.frozen? ⟨g, j, none⟩ = false := by simp [World.frozen?, show w.heap[g]? = _ from h]
theorem Rd.kept {row : Option Nat} (h : Rd g A c n p w) (hg : w.grownBy w' row) (hne : some g ≠ row) : Rd g A c n p w' := (hg.block g h.lt hne).trans h
theorem Rd.alloc (h : Rd g A c n p w) (o : Obj) : Rd g A c n p (w.alloc o) := h.kept (World.grownBy_alloc w o none) (by simp)
theorem Rd.below {B : Nat} (h : Rd g A c n p w) (hb : Below B w w') (hB : g < B) : Rd g A c n p w' := (hb.block g hB).trans h
theorem Rd.drew (h : Rd g A c n p w) : Rd g A c n p w.drew := h
theorem Rd.set (h : Rd g A c n p w) (q : Nat) : Rd g A c n q (w.setCell ⟨g, 1, none⟩ (.int .i64 q)) := by
  have h' : w.heap[g]? = some (.cells #[.slice A n c, .int .i64 p] 95 (0, 0)) := h
  show (w.setCell ⟨g, 1, none⟩ (.int .i64 q)).heap[g]? = _
  simp [World.setCell, Array.getElem?_modify, h']
theorem grown_set1 (w : World) (g k : Nat) (v : Value) : w.grownBy (w.setCell ⟨g, k, none⟩ v) (some g) :=
  ⟨rfl, rfl, rfl, (KeepsWalks.setCell w _ v).size, fun j _ hj => Below.heap_setCell _ _ _ j (fun e => hj (by rw [e]))⟩
theorem grown_drew {row : Option Nat} (h : w.grownBy w' row) : w.grownBy w'.drew row := ⟨h.os, h.tape, h.output, h.size, h.block⟩
theorem grown_trans {w'' : World} {row : Option Nat} (h : w.grownBy w' row) (k : w'.grownBy w'' row) : w.grownBy w'' row :=
  ⟨k.os.trans h.os, k.tape.trans h.tape, k.output.trans h.output, Nat.le_trans h.size k.size, fun j hj hne => (k.block j (Nat.lt_of_lt_of_le hj h.size) hne).trans (h.block j hj hne)⟩
theorem grown_none {row : Option Nat} (h : w.grownBy w' none) : w.grownBy w' row := ⟨h.os, h.tape, h.output, h.size, fun j hj _ => h.block j hj (by simp)⟩
end

/-- Where the reader's bytes stand: below its block. -/
def Src (g : Nat) (A : Option Addr) (c n : Nat) (zs : List Int) (w : World) : Prop :=
  Ns .u8 w g A zs ∧ (∀ z ∈ zs, 0 ≤ z ∧ z ≤ 255) ∧ zs.length = n ∧ n ≤ c ∧ n ≤ 4294967296
theorem Src.kept {w w' : World} {g n c : Nat} {A : Option Addr} {zs : List Int} (h : Src g A c n zs w) (hg : w.grownBy w' (some g)) (hlt : g < w.heap.size) : Src g A c n zs w' :=
  ⟨h.1.grown hg (by omega) (fun k hk => by injection hk with hk; omega), h.2⟩
theorem Src.drew {w : World} {g n c : Nat} {A : Option Addr} {zs : List Int} (h : Src g A c n zs w) : Src g A c n zs w.drew := h

/-- The panic of a reader that gives up. -/
def spoiltV : Value := .iface 93 (.agg #[])
/-- What taking comes to: a value, and the reader goes on; or it gives up. Nothing but the reader's block has turned. -/
def Took {α : Type} (g : Nat) (A : Option Addr) (c n : Nat) (w : World) (P : Option (α × Nat)) (V : α → Value → World → Prop) (e : Ending) (w' : World) : Prop :=
  w.grownBy w' (some g) ∧ match P with
    | some (x, q) => ∃ v, e = .returned v ∧ Rd g A c n q w' ∧ V x v w'
    | none => e = .panicked [{ v := spoiltV, recovered := false }]
theorem Took.none {α : Type} {g c n : Nat} {A : Option Addr} {w w' : World} {V : α → Value → World → Prop} {e : Ending} (h : Took g A c n w none V e w') : w.grownBy w' (some g) ∧ e = .panicked [{ v := spoiltV, recovered := false }] := h
theorem Took.some {α : Type} {g c n q : Nat} {A : Option Addr} {w w' : World} {V : α → Value → World → Prop} {e : Ending} {x : α} (h : Took g A c n w (some (x, q)) V e w') : ∃ v, e = .returned v ∧ Rd g A c n q w' ∧ V x v w' ∧ w.grownBy w' (some g) := by
  obtain ⟨h0, v, h1, h2, h3⟩ := h
  exact ⟨v, h1, h2, h3, h0⟩
theorem took_none {α : Type} {g c n : Nat} {A : Option Addr} {w w' : World} {V : α → Value → World → Prop} (h : w.grownBy w' (some g)) : Took g A c n w none V (.panicked [{ v := spoiltV, recovered := false }]) w' := ⟨h, rfl⟩
theorem took_some {α : Type} {g c n q : Nat} {A : Option Addr} {w w' : World} {V : α → Value → World → Prop} {x : α} {v : Value} (h : w.grownBy w' (some g)) (hr : Rd g A c n q w') (hv : V x v w') : Took g A c n w (some (x, q)) V (.returned v) w' := ⟨h, v, rfl, hr, hv⟩

theorem giveUp_any (p : Value) (w : World) : Calls Try.prog 52 #[p] w fun e w' => e = .panicked [{ v := spoiltV, recovered := false }] ∧ w' = w := by
  go_enter Try.func52, Try.ntmps52
  go_wp2
  exact ⟨rfl, rfl, rfl⟩

def intV (x : Int) (v : Value) (_ : World) : Prop := v = .int .i64 x

theorem rnum_any (g : Nat) (A : Option Addr) (c n p : Nat) (zs : List Int) (w : World) (hs : Src g A c n zs w) (hr : Rd g A c n p w) (hp : p ≤ n) :
    Calls Try.prog 55 #[.pointer (some ⟨g, 0, none⟩)] w (Took g A c n w (numP zs p) intV) := by
  obtain ⟨hN, hby, hn, hc, hbig⟩ := hs
  have hlt := hr.lt
  have h1 := fun W (hW : Ns .u8 W g A zs) => num_at A c n zs hn p g W hW hby (by omega) (by omega)
  have c0 := hr.c0
  have c1 := hr.c1
  have fz := hr.frozen 1
  rcases hP : numP zs p with _ | ⟨x, q⟩
  · have he := numP_none hP
    obtain ⟨⟨x, q, e⟩, hF⟩ : ∃ r, numF zs p = r := ⟨_, rfl⟩
    rw [hF] at h1 he
    simp only at he
    have he1 : (e != 0) = true := by simpa using he
    have H1 := Lib.hid h1
    have HN := Lib.hid hN
    clear h1 hN hF hP hby hr
    go_enter Try.func55, Try.ntmps55
    go_wp2_with fail
    go_region_held3 (fun V => V.cell? ⟨g, 0, none⟩ = some (.slice A n c) ∧ V.cell? ⟨g, 1, none⟩ = some (.int .i64 p) ∧ V = w.drew) (first | exact ⟨c0, c1, rfl⟩ | assumption)
      (first | (go_at_call 40; refine (H1.out _ HN.out.drew).mono ?_; rintro e w3 ⟨rfl, rfl⟩))
    all_goals
      go_wp2_with fail
      refine (giveUp_any _ _).mono ?_
      rintro e w3 ⟨rfl, rfl⟩
      exact ⟨rfl, took_none (grown_drew (World.grownBy.refl _ _))⟩
  · have hF := numP_some hP
    rw [hF] at h1
    have H1 := Lib.hid h1
    have HN := Lib.hid hN
    have HR := Lib.hid hr
    clear h1 hN hF hP hby hr
    go_enter Try.func55, Try.ntmps55
    go_wp2_with fail
    go_region_held3 (fun V => V.cell? ⟨g, 0, none⟩ = some (.slice A n c) ∧ V.cell? ⟨g, 1, none⟩ = some (.int .i64 p) ∧ V = w.drew) (first | exact ⟨c0, c1, rfl⟩ | assumption)
      (first | (go_at_call 40; refine (H1.out _ HN.out.drew).mono ?_; rintro e w3 ⟨rfl, rfl⟩))
    all_goals
      go_wp2_with fail
      go_ret
      exact took_some (grown_drew (grown_set1 _ _ _ _)) (HR.out.set q).drew rfl
theorem upTo_any (g : Nat) (A : Option Addr) (c n p : Nat) (zs : List Int) (m : Int) (w : World) (hs : Src g A c n zs w) (hr : Rd g A c n p w) (hp : p ≤ n) :
    Calls Try.prog 57 #[.pointer (some ⟨g, 0, none⟩), .int .i64 m] w (Took g A c n w (upP m zs p) intV) := by
  have h1 := rnum_any g A c n p zs w hs hr hp
  rcases hP : numP zs p with _ | ⟨x, q⟩
  · have hU : upP m zs p = none := by unfold upP; rw [hP]
    rw [hU]
    rw [hP] at h1
    have H1 := Lib.hid h1
    clear h1 hP hU hs hr
    go_enter Try.func57, Try.ntmps57
    go_wp2_with fail
    refine H1.out.mono ?_
    intro e w1 hT
    obtain ⟨hg, rfl⟩ := hT.none
    exact ⟨rfl, took_none hg⟩
  · rw [hP] at h1
    have hU : upP m zs p = if x ≤ m then some (x, q) else none := by unfold upP; rw [hP]
    by_cases hx : x ≤ m
    · rw [if_pos hx] at hU
      rw [hU]
      have H1 := Lib.hid h1
      clear h1 hP hU hs hr
      go_enter Try.func57, Try.ntmps57
      go_wp2_with fail
      refine H1.out.mono ?_
      intro e w1 hT
      obtain ⟨v, rfl, hr1, rfl, hg⟩ := hT.some
      clear hT
      go_wp2_with fail
      go_ret
      exact took_some hg hr1 rfl
    · rw [if_neg hx] at hU
      rw [hU]
      have hx' : m < x := by omega
      have H1 := Lib.hid h1
      clear h1 hP hU hs hr hx
      go_enter Try.func57, Try.ntmps57
      go_wp2_with fail
      refine H1.out.mono ?_
      intro e w1 hT
      obtain ⟨v, rfl, hr1, rfl, hg⟩ := hT.some
      clear hT
      go_wp2_with fail
      refine (giveUp_any _ _).mono ?_
      rintro e w3 ⟨rfl, rfl⟩
      exact ⟨rfl, took_none hg⟩

theorem whole_any (g : Nat) (A : Option Addr) (c n p : Nat) (zs : List Int) (w : World) (hs : Src g A c n zs w) (hr : Rd g A c n p w) (hp : p ≤ n) :
    Calls Try.prog 56 #[.pointer (some ⟨g, 0, none⟩)] w (Took g A c n w (upP 2147483647 zs p) intV) := by
  have h1 := upTo_any g A c n p zs 2147483647 w hs hr hp
  obtain ⟨P, hP⟩ : ∃ P, upP 2147483647 zs p = P := ⟨_, rfl⟩
  rw [hP] at h1 ⊢
  have H1 := Lib.hid h1
  clear h1 hP hs hr
  rcases P with _ | ⟨x, q⟩
  all_goals
    go_enter Try.func56, Try.ntmps56
    go_wp2_with fail
    refine H1.out.mono ?_
    intro e w1 hT
  · obtain ⟨hg, rfl⟩ := hT.none
    exact ⟨rfl, took_none hg⟩
  · obtain ⟨v, rfl, hr1, rfl, hg⟩ := hT.some
    clear hT
    go_wp2_with fail
    go_ret
    exact took_some hg hr1 rfl

def textV (x : List Int) (v : Value) (_ : World) : Prop := v = .string (strOfNums x)
end Code
end Go.Proofs.Ytjifklojbbocfaa
