/-
 What is held, as a law looks at it: right, and as it is (layer 14).
-/
import Derived.Test.YtekhaejhmlebbaaGreatQMendFewPlain
import Derived.Test.YtekhaejhmlebbaaGreatQMendAwake
import Derived.Test.YtekhaejhmlebbaaGreatQMendBulk
namespace Go.Proofs.YtekhaejhmlebbaaGreat
namespace Mend
open Go.RowKit Vers Num Ring Disk Blk Tree
open Go.Proofs.YtekhaejhmlebbaaGreat.Code hiding Bn
def Lst (a : List Rc) : Prop := Hel a ∧ okL a
theorem Lst.held {l : List Rc} (h : okL l) : Lst (heldF l) := ⟨held_hel l, okL_held h⟩
theorem okL_fold (m : List Rc) (hm : okL m) : ∀ a, okL a → okL (m.foldl withR a) := by
 induction m with
 | nil => exact fun _ h => h
 | cons r m ih =>
  intro a h
  refine ih (fun x hx => hm x (by simp [hx])) _ fun x hx => ?_
  rcases with_mem.1 hx with ⟨rfl, _⟩ | ⟨h1, _⟩
  ·exact hm _ (by simp)
  ·exact h x h1
theorem Lst.fold {a m : List Rc} (h : Lst a) (hm : okL m) : Lst (m.foldl withR a) := ⟨hel_fold m a h.1, okL_fold m hm a h.2⟩
theorem held_up (A : Option Addr) (c n : Nat) (l : List Rc) (hn : l.length = n) (hbig : n ≤ 3518437208882) (V : World) (hr : Rs V 0 V.heap.size A l) :
  Calls Tryz.prog 11 #[.slice A n c] V (fun e w' => (okL l ∧ ∃ A m c, e = .returned (.tuple #[.slice A m c, .bool true]) ∧ Hid ((heldF l).length = m ∧ m ≤ c ∧ m ≤ n ∧ Rs w' 0 w'.heap.size A (heldF l)) ∧ Below V.heap.size V w') ∨ (¬ okL l ∧ e = .returned (.tuple #[.slice none 0 0, .bool false]) ∧ Below V.heap.size V w')) := by
 refine (held_any A c n V.heap.size l hn hbig V (Nat.le_refl _) (rs_rb hr)).mono ?_
 rintro e w' (⟨hok, Aa, m, ca, ps, rfl, h, hb⟩ | ⟨hno, rfl, hb⟩)
 ·refine .inl ⟨hok, Aa, m, ca, rfl, Lib.hid ⟨h.out.2.1, h.out.2.2.1, ?_, ?_⟩, hb⟩
  ·have := held_len l
   rw [hn, h.out.2.1] at this
   exact this
  ·have h1 := h.out.2.2.2.rb
   rw [h.out.1] at h1
   exact rb_rs h1 hb.size
 ·exact .inr ⟨hno, rfl, hb⟩
theorem open_up (A : Option Addr) (c n : Nat) (a : List Rc) (ha : Lst a) (hn : a.length = n) (hbig : n ≤ 3518437208780) (V : World) (hr : Rs V 0 V.heap.size A a) :
  Calls Tryz.prog 14 #[.slice A n c] V (Hashd (kidsF a []) V) := by
 have h := open_any A c n a hn (by omega) V hr
 have e : openF a = kidsF a [] := by unfold openF; rw [if_pos ha.2, held_self ha.1]
 rwa [e] at h
theorem answer_up (A Ap Ah : Option Addr) (c cp ch n np nh : Nat) (a : List Rc) (p hs : List Int) (ha : Lst a) (hn : a.length = n) (hnp : p.length = np) (hnh : hs.length = nh) (hbig : n ≤ 3518437208780) (hp1 : okP p) (hp2 : np ≤ 1) (V : World) (hr : Rs V 0 V.heap.size A a) (hp : Ns .i64 V V.heap.size Ap p) (hh : Ns .u64 V V.heap.size Ah hs) :
  Calls Tryz.prog 16 #[.slice A n c, .slice Ap np cp, .slice Ah nh ch] V (fun e w' => ∃ A m c, e = .returned (.slice A m c) ∧ Hid ((diffF (kidsF a p) hs).length = m ∧ m ≤ c ∧ StepsR (fun _ => False) 47 V.heap.size ((diffF (kidsF a p) hs).map (stepF a p)) (.slice A m c) w') ∧ Below V.heap.size V w') := by
 have h := answer_any A Ap Ah c cp ch n np nh a p hs hn hnp hnh hbig (by omega) V hr hp hh
 have e : answerF a p hs = (diffF (kidsF a p) hs).map (stepF a p) := by
  unfold answerF
  rw [if_pos ⟨ha.2, hp1, by omega⟩, held_self ha.1]
 rw [e] at h
 refine h.mono ?_
 rintro e w' ⟨A, m, c, rfl, h1, h2⟩
 exact ⟨A, m, c, rfl, Lib.hid ⟨by rw [← h1.out.1, List.length_map], h1.out.2.1, h1.out.2.2⟩, h2⟩
theorem diff_16 (a b : List Int) : (diffF a b).length ≤ 16 := by
 have h := dk_len a b 16
 rwa [dk_full] at h
end Mend
end Go.Proofs.YtekhaejhmlebbaaGreat
