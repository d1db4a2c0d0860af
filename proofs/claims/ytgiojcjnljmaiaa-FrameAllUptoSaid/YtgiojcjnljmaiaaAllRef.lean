/-
  firthref02.All tells what allF tells.
-/
import Derived.Test.YtgiojcjnljmaiaaNextRef
import Derived.Test.YtgiojcjnljmaiaaAllPlain
import Derived.Test.YtgiojcjnljmaiaaLists
namespace Go.Proofs.Ytgiojcjnljmaiaa
namespace Frm
open Go.RowKit Num

theorem info_lists : (Try.prog.info? 22).map (fun i => (i.zero, i.size, i.bytes)) = some (some (.slice none 0 0), 1, 24) := by kernel_rfl

/-- What is made later doesn't lie in the row. -/
theorem lists_apart {B n m c : Nat} {t t' : TypeId} {w w1 : World} {v : Value} {ps : List (List Int)} {A : Option Addr} {xs : List Value} (h : OwnLists B t w v ps) (o : w1.ownsRow w.heap.size t' 1 (.slice A n c) m xs) :
    ∀ a, A = some a → v.ownBlock ≠ some a.block := by
  rintro a rfl hv
  obtain ⟨_, ho, _⟩ := h
  have h1 := (o.lt a.block rfl).1
  have h2 := (ho.lt _ hv).2
  omega

/-- How far a walk over the frames has come. -/
def AtAll (t : TypeId) (zs : List Int) (w : World) (v q : Value) (wr : World) : Prop :=
  ∃ (k f : Nat) (ps : List (List Int)), q = .int .i64 k ∧ k ≤ zs.length ∧ zs.length - k ≤ f ∧ ps.length ≤ k ∧
    allF zs zs.length 0 = (ps ++ (allF zs f k).1, (allF zs f k).2) ∧ OwnLists w.heap.size t wr v ps ∧ Below w.heap.size w wr

theorem ref_all_any (A : Option Addr) (c : Nat) (zs : List Int) (w : World) (hr : Ns .u8 w w.heap.size A zs) (hby : ∀ z ∈ zs, 0 ≤ z ∧ z ≤ 255) (hlc : zs.length ≤ c) (hbig : zs.length ≤ 1099511627776) :
    Calls Try.prog 6 #[.slice A zs.length c] w (Alls 22 (allF zs zs.length 0) w) := by
  obtain ⟨i0, hi0, hz0, hz1, hz2⟩ := info_parts info_lists
  have HR := Lib.hid (And.intro hr hby)
  obtain ⟨R, hR⟩ : ∃ R, allF zs zs.length 0 = R := ⟨_, rfl⟩
  have HR0 := Lib.hid hR
  rw [hR]
  clear hr hby hR
  go_enter Try.func6, Try.ntmps6
  go_wp2
  go_loopw [5, 6] (fun v q wr => AtAll 22 zs w v q wr) (fun _ q _ => zs.length - (intOf q).toNat)
  case atStart => exact ⟨0, zs.length, [], rfl, by omega, by omega, by simp, by simp, OwnLists.start _ _ _, Below.refl _ _⟩
  case round =>
    obtain ⟨k, f, ps, rfl, hk, hf, hps, hall, hown, hb⟩ := hrel
    have hsz := hb.size
    by_cases hlt : k < zs.length
    · have h1 := ref_next_any A c zs k wr ((HR.out.1.below hb).more hsz) HR.out.2 hlc (by omega) (by omega)
      obtain ⟨⟨Y, q, e⟩, hF⟩ : ∃ r, nextF zs k = r := ⟨_, rfl⟩
      rw [hF] at h1
      have H1 := Lib.hid h1
      have d1 : (k : Int) < (zs.length : Int) := by omega
      by_cases he : e = 0
      · subst he
        obtain ⟨f, rfl⟩ : ∃ f', f = f' + 1 := ⟨f - 1, by omega⟩
        rw [allF_step hlt hF] at hall
        have hok := next_ok HR.out.2 hF
        have Hall := Lib.hid hall
        clear h1 hF hall
        go_wp2_with fail
        refine H1.out.mono ?_
        rintro e w1 ⟨A1, c1, rfl, o1, b1⟩
        have hsz1 := b1.size
        have n1 := own_ns o1
        have hl1 := (own_len o1).2
        obtain ⟨us, ho, hj⟩ := hown.below b1
        have hne := lists_apart hown o1
        have HO := Lib.hid (And.intro ho (And.intro hj (And.intro n1 hne)))
        have HB := Lib.hid (hb.trans (b1.mono hsz))
        have HK := Lib.hid hok
        have hyl : ps.length + 1 ≤ 1099511627777 := by omega
        have n0 := hl1
        clear o1 n1 hj hown hok hb H1
        go_wp2_with (at_builtin; refine wpList_append_one _ rfl (.tmp 26) (.tmp 28) 23 rfl w.heap.size 22 i0 (.slice none 0 0) 24 Try.underlying23 hi0 hz0 hz1 hz2 rfl _ ps.length us rfl HO.out.1 (.slice A1 Y.length c1) 1 rfl rfl (by omega) (by omega) (by omega) ?_; intro v2 w2 o2 g2 at2)
        have b2 : Below w.heap.size w w2 := HB.out.grown g2 (by omega) (fun k hk => (HO.out.1.lt k hk).1)
        have l2 := lists_more HO.out.1 HO.out.2.1 HO.out.2.2.1 n0 (fun _ => HO.out.2.2.2) o2 g2 at2
        clear ho o2 g2 at2
        go_wp2
        go_roundw
        case rel => exact ⟨q, f, ps ++ [Y], rfl, HK.out.2.2.1, by have := HK.out.2.1; omega, by have := HK.out.2.1; simp; omega, by rw [HR0.out, ← HR0.out, Hall.out]; simp, l2, b2⟩
        case measure => have := HK.out.2.1; have := HK.out.2.2.1; simp only [intOf]; omega
      · obtain ⟨f, rfl⟩ : ∃ f', f = f' + 1 := ⟨f - 1, by omega⟩
        rw [allF_err hlt hF he, HR0.out] at hall
        have hb0 : (e == 0) = false := by simpa using he
        have Hall := Lib.hid hall
        have HO := Lib.hid hown
        have HB := Lib.hid hb
        clear h1 hF hall hown hb he
        go_wp2_with fail
        refine H1.out.mono ?_
        rintro e1 w1 ⟨A1, c1, rfl, o1, b1⟩
        have O1 := Lib.hid (HO.out.below b1)
        have B1 := Lib.hid (HB.out.trans (b1.mono hsz))
        clear o1 b1
        obtain ⟨us, ho, _⟩ := O1.out
        obtain ⟨A2, c2, rfl⟩ := own_form ho
        clear ho
        go_wp2
        go_ret3
        rw [Hall.out]
        exact ⟨A2, c2, by simp, by simpa using O1.out, B1.out⟩
    · have hk0 : k = zs.length := by omega
      subst hk0
      rw [allF_end (Nat.le_refl _), HR0.out] at hall
      have Hall := Lib.hid hall
      have HO := Lib.hid hown
      have HB := Lib.hid hb
      obtain ⟨us, ho, _⟩ := HO.out
      obtain ⟨A2, c2, rfl⟩ := own_form ho
      clear ho hall hown hb
      go_wp2
      go_ret3
      rw [Hall.out]
      exact ⟨A2, c2, by simp, by simpa using HO.out, HB.out⟩
end Frm
end Go.Proofs.Ytgiojcjnljmaiaa
