/-
  disk: Read; what is refused (layer 7).
-/
import Derived.Test.YtdcppjpjlhbanaaDiskMisc
import Derived.Test.YtdcppjpjlhbanaaDiskAppend
import Derived.Lib.SliceRun
namespace Go.Proofs.Ytdcppjpjlhbanaa
namespace Disk
open Go.RowKit Blk Go.Maps
attribute [local go_sem ↓] Go.wp_at_zero Go.wp_at_succ
/-- New memory that holds the same bytes. -/
theorem clone_any (A : Option Addr) (c n : Nat) (zs : List Int) (hn : zs.length = n) (B : Nat) (w : World) (hB : B ≤ w.heap.size) (hr : Ns .u8 w B A zs) (hbig : n ≤ 140737488351232) :
    Calls Try.prog 36 #[.slice A n c] w (fun e w' => ∃ A1 c1, e = .returned (.slice A1 n c1) ∧ w'.ownsRow w.heap.size 5 1 (.slice A1 n c1) n (nums .u8 zs) ∧ Below w.heap.size w w') := by
  rcases A with _ | ad
  · have h0 : n = 0 := by
      rcases Nat.eq_zero_or_pos n with h | h
      · exact h
      · obtain ⟨b, off, e, _⟩ := hr (by omega)
        cases e
    subst h0
    obtain rfl : zs = [] := List.eq_nil_of_length_eq_zero hn
    have hne := Lib.run_eql_slice_nil (P := Try.prog) w 29 5 none 0 c 0 0 Try.underlying29
    rw [show (none : Option Addr).isNone = true from rfl] at hne
    clear hr hn
    go_enter Try.func36, Try.ntmps36
    go_wp2_with fail
    go_ret
    exact ⟨none, 0, rfl, World.ownsRow_nil _ _ _ _, Below.refl _ _⟩
  · obtain ⟨i0, hi0, hz0, hz1, hz2⟩ := info_parts Facts.info5
    have q1 := hr.more hB
    have ho := World.ownsRow_lit (base := w.heap.size) (e := 5) (size := 1) w #[] 0 (Nat.le_refl _) (by unfold maxLen; omega) rfl
    have q2 := q1.alloc (Nat.le_refl _) (.cells #[] 5)
    have hne := Lib.run_eql_slice_nil (P := Try.prog) w 29 5 (some ad) n c 0 0 Try.underlying29
    rw [show (some ad).isNone = false from rfl] at hne
    have Hn := Lib.hid hn
    clear hr hn q1
    go_enter Try.func36, Try.ntmps36
    have b0 := (Below.refl w.heap.size w).alloc (Nat.le_refl _) (.cells #[] 5)
    go_wp2_with (at_builtin; refine wpList_append_ns _ rfl (.tmp 5) (.tmp 6) 29 rfl w.heap.size 5 i0 (.int .u8 0) 1 Try.underlying29 hi0 hz0 hz1 hz2 rfl _ 0 [] rfl ho .u8 w.heap.size (some ad) n c zs Hn.out rfl q2 (by omega) (by omega) (by simp) ?_; intro v1 w1 o1 g1 at1)
    have b1 := b0.grown g1 (by simp) (fun j hj => (ho.lt j hj).1)
    rw [Nat.zero_add, List.nil_append] at o1
    obtain ⟨A1, c1, rfl⟩ := own_form o1
    have HE := Lib.hid (And.intro o1 b1)
    clear o1 g1 at1 b1
    go_ret
    exact ⟨A1, c1, rfl, HE.out⟩


theorem ROK.ns {F : Nat → Prop} {own : Nat → Nat} {w : World} {x : Fl} (h : ROK F own w x) (hF : ∀ j, F j → j < w.heap.size) : Ns .u8 w w.heap.size x.A x.d := fun hp => by
  obtain ⟨_, _, _, q⟩ := h
  rcases q with ⟨_, q, _⟩ | ⟨g, cur, q1, q2, _, q3, _, q4⟩
  · rw [q] at hp; simp at hp
  · refine ⟨g, 0, q1, hF g q2, fun j hj => ?_⟩
    have h1 : (cur.toList.take x.d.length)[j]? = (nums .u8 x.d)[j]? := by rw [q4]
    rw [List.getElem?_take_of_lt hj] at h1
    unfold nums at h1
    rw [List.getElem?_map, List.getElem?_eq_getElem hj] at h1
    rw [Nat.zero_add, List.getD_eq_getElem?_getD, List.getElem?_eq_getElem hj]
    simp only [World.cell?, q3]
    rw [← Array.getElem?_toList]
    exact h1
section
variable {F : Nat → Prop} {own : Nat → Nat} {w : World} {db N : Nat} {room : Int} {es : Es} {r : List Un}
set_option maxRecDepth 100000 in
theorem read_any (h : DK F own N w db room es r) (s : Nm) (hs : okN s) (k : Nat) (hk : (dat (fsE es) s).length = k) :
    Calls Try.prog 19 #[hd db, .string s] w (fun e w' => ∃ A1 c1, e = .returned (.tuple #[.slice A1 k c1, .bool (find es s).isSome]) ∧ Hid (w'.ownsRow w.heap.size 5 1 (.slice A1 k c1) k (nums .u8 (dat (fsE es) s)) ∧ Below w.heap.size w w')) := by
  obtain ⟨mb, A, n, c, hp⟩ := h.parts
  obtain ⟨x0, hx0⟩ : ∃ x, oldF es N s = x := ⟨_, rfl⟩
  have hxk := oldF_ok hp.2.2.1.1 N s
  have hxd := oldF_dat es N s
  rw [hx0] at hxk hxd
  rw [← hxd] at hk ⊢
  obtain ⟨th, hth⟩ : ∃ b, (find es s).isSome = b := ⟨_, rfl⟩
  rw [hth]
  have hlook : (Instr.lookup 57 (.map (some mb)) (.string s) true).run Try.prog w = .ok (.tuple #[.slice x0.A k x0.c, .bool th]) w := by
    have q := MI.look_ok (w := w) hp.1.2 s hs
    rw [find_map, Option.isSome_map, hth, oldF_v es N s, hx0] at q
    rw [← hk]
    exact q
  have H1 := Lib.hid (clone_any x0.A x0.c k x0.d hk w.heap.size w (Nat.le_refl _) (hxk.ns fun j hj => h.lt j hj) (by have := hxk.2.2.1; omega))
  have c2 := (hp.1.1.cell 2).trans rfl
  clear hp h hxk hxd hk hth
  go_enter Try.func19, Try.ntmps19
  go_wp2_with fail
  refine H1.out.mono ?_
  rintro e w2 ⟨A1, c1, rfl, ho, hb⟩
  have HE := Lib.hid (And.intro ho hb)
  clear ho hb
  go_wp2_with fail
  go_ret2
  exact ⟨A1, c1, rfl, HE⟩
end
end Disk
end Go.Proofs.Ytdcppjpjlhbanaa
