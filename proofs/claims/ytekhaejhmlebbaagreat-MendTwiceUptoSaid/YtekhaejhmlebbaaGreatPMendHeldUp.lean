/-
  What is held, as a law looks at it: right, and as it is (layer 14).
-/
import Derived.Test.YtekhaejhmlebbaaGreatPMendFewPlain
import Derived.Test.YtekhaejhmlebbaaGreatPMendAwake
import Derived.Test.YtekhaejhmlebbaaGreatPMendBulk
namespace Go.Proofs.YtekhaejhmlebbaaGreat
namespace Mend
open Go.RowKit Vers Num Ring Disk Blk Tree
open Go.Proofs.YtekhaejhmlebbaaGreat.Code hiding Bn
/-- Right records, sorted, each key once. -/
def Lst (a : List Rc) : Prop := Hel a ∧ okL a
theorem Lst.held {l : List Rc} (h : okL l) : Lst (heldF l) := ⟨held_hel l, okL_held h⟩
theorem okL_fold (m : List Rc) (hm : okL m) : ∀ a, okL a → okL (m.foldl withR a) := by
  induction m with
  | nil => exact fun _ h => h
  | cons r m ih =>
    intro a h
    refine ih (fun x hx => hm x (by simp [hx])) _ fun x hx => ?_
    rcases with_mem.1 hx with ⟨rfl, _⟩ | ⟨h1, _⟩
    · exact hm _ (by simp)
    · exact h x h1
theorem Lst.fold {a m : List Rc} (h : Lst a) (hm : okL m) : Lst (m.foldl withR a) := ⟨hel_fold m a h.1, okL_fold m hm a h.2⟩
/-- What Held tells, where it is kept: rows of rights, wherever. -/
theorem held_up (A : Option Addr) (c n : Nat) (l : List Rc) (hn : l.length = n) (hbig : n ≤ 3518437208882) (V : World) (hr : Rs V 0 V.heap.size A l) :
    Calls Tryz.prog 11 #[.slice A n c] V (fun e w' => (okL l ∧ ∃ A m c, e = .returned (.tuple #[.slice A m c, .bool true]) ∧ Hid ((heldF l).length = m ∧ m ≤ c ∧ m ≤ n ∧ Rs w' 0 w'.heap.size A (heldF l)) ∧ Below V.heap.size V w') ∨ (¬ okL l ∧ e = .returned (.tuple #[.slice none 0 0, .bool false]) ∧ Below V.heap.size V w')) := by
  refine (held_any A c n V.heap.size l hn hbig V (Nat.le_refl _) (rs_rb hr)).mono ?_
  rintro e w' (⟨hok, Aa, m, ca, ps, rfl, h, hb⟩ | ⟨hno, rfl, hb⟩)
  · refine .inl ⟨hok, Aa, m, ca, rfl, Lib.hid ⟨h.out.2.1, h.out.2.2.1, ?_, ?_⟩, hb⟩
    · have := held_len l
      rw [hn, h.out.2.1] at this
      exact this
    · have h1 := h.out.2.2.2.rb
      rw [h.out.1] at h1
      exact rb_rs h1 hb.size
  · exact .inr ⟨hno, rfl, hb⟩
end Mend
end Go.Proofs.YtekhaejhmlebbaaGreat
