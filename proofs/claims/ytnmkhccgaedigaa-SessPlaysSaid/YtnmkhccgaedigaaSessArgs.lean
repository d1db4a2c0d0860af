/-
  Slices of bytes in a slice among a law's arguments; sessions beside a world.
-/
import Derived.Test.YtnmkhccgaedigaaArgW
import Derived.Test.YtnmkhccgaedigaaSessAwake
import Derived.Test.YtnmkhccgaedigaaSessTwo
namespace Go.Proofs.Ytnmkhccgaedigaa
namespace Facts
theorem cells3 : Try.prog.cellsOf 3 = 1 := by kernel_rfl
theorem bytes3 : Try.prog.bytesOf 3 = 8 := by kernel_rfl
end Facts
namespace Sess
open Go.ChangeShapes Go.WideShapes Go.ChangeAt Go.RowKit Blk

/-- Bytes with their slice. -/
abbrev Tk := List Int × Option Addr × Nat
def t0 : Tk := ([], none, 0)
def tkV (x : Tk) : Value := .slice x.2.1 x.1.length x.2.2
/-- A slice of slices of bytes. -/
def Tks (w : World) (B : Nat) (A : Option Addr) (l : List Tk) : Prop := (∀ x ∈ l, Ns .u8 w B x.2.1 x.1) ∧ (0 < l.length → ∃ b off, A = some ⟨b, off, none⟩ ∧ b < B ∧ ∀ j, j < l.length → w.cell? ⟨b, off + j, none⟩ = some (tkV (l.getD j t0)))
theorem Tks.below {w w' : World} {B : Nat} {A : Option Addr} {l : List Tk} (h : Tks w B A l) (hb : Below B w w') : Tks w' B A l := ⟨fun x hx => (h.1 x hx).below hb, fun hp => by
  obtain ⟨b, off, e, h1, h2⟩ := h.2 hp
  exact ⟨b, off, e, h1, fun j hj => (hb.cell (p := ⟨b, off + j, none⟩) h1).trans (h2 j hj)⟩⟩
section
variable {H : Type} {enc : TypeId × Value → H} {W : World}
theorem cells_by : Try.prog.cellsOf 32 = 1 := by kernel_rfl
theorem bytes_by : Try.prog.bytesOf 32 = 24 := by kernel_rfl
theorem arg_toks {v : Value} {d : DataW H} {p : List MemPlace} {r : Reach} {b0 : Nat} (hv : Value.okWide Try.prog W r b0 56 v) (h : DataW.Trod enc Try.prog W 0 (fun _ => true) true 56 v d p) (hw : Wgt.Wt Try.prog 56 d) :
    ∃ (A : Option Addr) (c : Nat) (l : List Tk), v = .slice A l.length c ∧ Tks W W.heap.size A l ∧ (∀ x ∈ l, OkT x.1) ∧ l.length * 24 ≤ 140737488351232 ∧ l.length ≤ c := by
  obtain ⟨A, c, l, rfl, hc, hb, hq, hp⟩ := Wgt.arg_slice Try.underlying56 hv h hw cells_by bytes_by (by omega) (fun x : Tk => [tkV x]) (fun x => Ns .u8 W W.heap.size x.2.1 x.1 ∧ OkT x.1) t0 (fun _ => rfl) (fun n cs D Pl h hw => by
    obtain ⟨A, c, l, e, h1, _, h3, h4⟩ := Wgt.bytes_cell Try.underlying32 Try.underlying5 Facts.cells5 Facts.bytes5 h hw
    exact ⟨(l, A, c), e, h1, h3, h4⟩)
  refine ⟨A, c, l, rfl, ⟨fun x hx => (hq x hx).1, fun h0 => ?_⟩, fun x hx => (hq x hx).2, hb, hc⟩
  obtain ⟨b, off, e, hbl, hat⟩ := hp h0
  exact ⟨b, off, e, hbl, fun j hj => by have := hat j hj 0 _ rfl; simpa using this⟩
end

/-- Sessions behind a world w, all of them new since then. -/
def Sit (w : World) (sb : Nat) (N : Int) (L : List Sn) (m : Nat) (F : Nat → Prop) (V : World) : Prop := SI F V sb N L m ∧ Below w.heap.size w V ∧ ∀ k, F k → w.heap.size ≤ k
section
variable {w V V' : World} {sb m : Nat} {N : Int} {L : List Sn} {F F' : Nat → Prop}
theorem Sit.step {L' : List Sn} {m' : Nat} (h : Sit w sb N L m F V) (h1 : SI F' V' sb N L' m') (h2 : Stp F V F' V') : Sit w sb N L' m' F' V' := ⟨h1, h2.old h.2.1 h.2.2⟩
theorem Sit.below (h : Sit w sb N L m F V) (hb : Below V.heap.size V V') : Sit w sb N L m F V' := ⟨h.1.below hb, h.2.1.trans (hb.mono h.2.1.size), h.2.2⟩
/-- What an argument's slice leads to is none of the sessions' blocks. -/
theorem Sit.apart (h : Sit w sb N L m F V) {A : Option Addr} {t : List Int} (hn : Ns .u8 w w.heap.size A t) (hp : 0 < t.length) : ∀ a, A = some a → ¬ F a.block := fun a ha hf => by
  obtain ⟨b, off, e, hb, _⟩ := hn hp
  rw [e] at ha
  injection ha with ha
  subst ha
  have := h.2.2 _ hf
  simp only at this
  omega
end
/-- End, where the token is an argument's. -/
theorem end_arg {F : Nat → Prop} {w V : World} {sb m : Nat} {N : Int} {L L' : List Sn} (h : Sit w sb N L m F V) (hn : L.length ≤ 10000000000000) (op : Int) (hop : -9223372036854775808 ≤ op ∧ op ≤ 9223372036854775807) (At : Option Addr) (ct tl : Nat) (t : List Int) (htl : t.length = tl) (ht : OkT t) (hr : Ns .u8 w w.heap.size At t)
    {num : Int} {ok : Bool} (hF : endF L op t = (L', num, ok)) :
    Calls Try.prog 12 #[hd sb, .int .i64 op, .slice At tl ct] V (fun e w' => e = .returned (.tuple #[.int .i64 num, .bool ok]) ∧ ∃ F', Hid (SI F' w' sb N L' m ∧ Stp F V F' w')) :=
  (end_any h.1 hn op hop At ct tl t htl ht ((hr.below h.2.1).more h.2.1.size) (fun hp => h.apart hr hp)).mono fun e w' h => by
    unfold EndPost at h
    rw [hF] at h
    obtain ⟨he, F', h1, h2⟩ := h
    exact ⟨he, F', Lib.hid ⟨h1, h2⟩⟩
end Sess
end Go.Proofs.Ytnmkhccgaedigaa
