/-
  sess: End, Go.
-/
import Derived.Test.YtnmkhccgaedigaaSessBegin
namespace Go.Proofs.Ytnmkhccgaedigaa
namespace Sess
open Go.RowKit Blk Go.Maps
attribute [local go_sem ↓] Go.wp_at_zero Go.wp_at_succ

theorem ns_same {k : IntKind} {w w' : World} {B B' : Nat} {A : Option Addr} {zs : List Int} (h : Ns k w B A zs) (hk : ∀ a, A = some a → w'.heap[a.block]? = w.heap[a.block]?) (hB : B ≤ B') : Ns k w' B' A zs := fun hp => by
  obtain ⟨b, off, e, hb, hc⟩ := h hp
  exact ⟨b, off, e, by omega, fun j hj => (World.cell?_of_block (a := ⟨b, off + j, none⟩) (by exact hk ⟨b, off, none⟩ e)).trans (hc j hj)⟩
theorem own_base0 {w : World} {base : Nat} {e : TypeId} {size : Nat} {v : Value} {n : Nat} {xs : List Value} (h : w.ownsRow base e size v n xs) : w.ownsRow 0 e size v n xs := own_base h (Nat.zero_le _)
section
variable {F : Nat → Prop} {w w' : World} {sb mb n m c : Nat} {N : Int} {A : Option Addr} {es : List Se} {L : List Sn} {D : DataW Unit}
/-- A session gets a token, which was made just now. -/
theorem SO.setTok (h : SO F w sb mb N A c n es L m D) {i : Nat} {x : Sn} {e : Se} (hx : L[i]? = some x) (he : es[i]? = some e) {At : Option Addr} {ct B : Nat} (t : List Int) (ho : w.ownsRow B 5 1 (.slice At t.length ct) t.length (nums .u8 t)) :
    SO (fun k => F k ∨ (B ≤ k ∧ k < w.heap.size)) (w.setCell ⟨e.1, 1, none⟩ (.slice At t.length ct)) sb mb N A c n (es.set i (e.1, At, ct)) (L.set i (x.1, t, x.2.2)) m D := by
  have hse := h.2.1.2.2.2 i x e hx he
  have hg := gset w e.1 1 (.slice At t.length ct)
  refine h.turn (e' := (e.1, At, ct)) (y := (x.1, t, x.2.2)) hx he rfl hg ⟨hse.1.set 1 (.slice At t.length ct), own_keep (own_base0 ho) fun g hg' => hg.block g (ho.lt g hg').2 fun q => own_ne ho hse.1 (by decide) (by rw [← q]; exact hg'), .inl hse.2.2.1, fun g hg' => .inr (ho.lt g hg')⟩ (fun _ h => .inl h) (fun k hk => ?_)
  have := hg.size
  rcases hk with hk | hk
  · have := h.lt k hk
    omega
  · omega
end
def EndPost (L : List Sn) (N : Int) (m : Nat) (F : Nat → Prop) (sb : Nat) (w : World) (op : Int) (t : List Int) (e : Ending) (w' : World) : Prop :=
  e = .returned (.tuple #[.int .i64 (endF L op t).2.1, .bool (endF L op t).2.2]) ∧ ∃ F', SI F' w' sb N (endF L op t).1 m ∧ Stp F w F' w'

set_option maxRecDepth 100000 in
theorem end_any {F : Nat → Prop} {w : World} {sb m : Nat} {N : Int} {L : List Sn} (h : SI F w sb N L m) (hn : L.length ≤ 10000000000000) (op : Int) (hop : -9223372036854775808 ≤ op ∧ op ≤ 9223372036854775807)
    (At : Option Addr) (ct tl : Nat) (t : List Int) (htl : t.length = tl) (ht : OkT t) (hr : Ns .u8 w w.heap.size At t) (hA : 0 < t.length → ∀ a, At = some a → ¬ F a.block) :
    Calls Try.prog 12 #[hd sb, .int .i64 op, .slice At tl ct] w (EndPost L N m F sb w op t) := by
  have hSI := h
  obtain ⟨mb, A, c, es, D, hS, hM, hI⟩ := h
  have hD := has_is hM op
  have c2 := hS.1.1.cell 2
  simp only [List.getElem?_cons_succ, List.getElem?_cons_zero] at c2
  have hkey := key64 op hop
  have hown := hS.1.2.2
  by_cases hask : askF L op = true
  case neg =>
    have hask' : askF L op = false := by simpa using hask
    rw [hask'] at hD
    have hF := endF_none (L := L) (op := op) t fun i hi => hask (askF_iff.2 ⟨i, hi⟩)
    have HE : Hid (EndPost L N m F sb w op t (.returned (.tuple #[.int .i64 0, .bool false])) w) := Lib.hid (by
      unfold EndPost
      rw [hF]
      exact ⟨rfl, F, hSI, Stp.refl _ _⟩)
    have HM := Lib.hid (And.intro hown (And.intro hkey hD))
    clear hSI hS hM hI hD hF hkey hown hask hask' hr hA ht htl
    go_enter Try.func12, Try.ntmps12
    go_wp2_with (at_lookup; refine wpList_lookup_own_ok_int _ rfl _ _ 60 rfl 2 3 .i64 law64 Try.underlying60 Try.underlying3 (zeroE _) mb m D rfl HM.out.1 _ _ rfl HM.out.2.1 ?_; intro cc hat hwc; rw [HM.out.2.2]; clear hat hwc)
    go_ret2
    exact HE.out
  rw [hask] at hD
  obtain ⟨i, hi⟩ := askF_iff.1 hask
  obtain ⟨h0, x, hx, hxo⟩ := hi
  have hil : i < L.length := (List.getElem?_eq_some_iff.1 hx).1
  obtain ⟨x', e, hx', he, hse⟩ := hS.at hil
  rw [hx] at hx'
  injection hx' with hx'
  subst hx'
  have hF := endF_some hI hx ⟨h0, x, hx, hxo⟩ t
  have hat0 := hM.2.2 op i ⟨h0, x, hx, hxo⟩
  have h1 := get_some hS (by omega) i e he ((i : Int) + 1) rfl
  rw [show ptr e = .pointer (some ⟨e.1, 0, none⟩) from rfl] at h1
  have hne := hS.ne hx he
  have d2 := hse.1.cell 2
  have f2 := hse.1.frozen 2
  unfold cellsS at d2
  simp only [List.getElem?_cons_succ, List.getElem?_cons_zero] at d2
  obtain ⟨W1, hW1⟩ : ∃ W1, w.setCell ⟨e.1, 2, none⟩ (.int .i64 0) = W1 := ⟨_, rfl⟩
  have hS1 : SO F W1 sb mb N A c L.length (es.set i e) (L.set i (x.1, x.2.1, 0)) m D := by rw [← hW1]; exact hS.setOp hx he 0
  have hgs := gset w e.1 2 (.int .i64 0)
  rw [hW1] at hgs
  have c2' := hS1.1.1.cell 2
  simp only [List.getElem?_cons_succ, List.getElem?_cons_zero] at c2'
  have hes : (es.set i e)[i]? = some e := by rw [List.getElem?_set_self (List.getElem?_eq_some_iff.1 he).1]
  have hLs : (L.set i (x.1, x.2.1, 0))[i]? = some (x.1, x.2.1, 0) := by rw [List.getElem?_set_self hil]
  have hse1 := hS1.2.1.2.2.2 i _ _ hLs hes
  have hFe := hse.2.2.1
  have hM2 := fun t => map_end hI hM hx hxo h0 t
  have hI2 := fun t ht => inv_end hI hx t ht
  have hr1 : Ns .u8 W1 W1.heap.size At t := fun hp => (ns_same hr (fun a ha => by
    rcases Nat.lt_or_ge a.block w.heap.size with hl | hl
    · exact hgs.block a.block hl fun q => hA hp a ha (by injection q with q; rw [q]; exact hFe)
    · rw [← hW1]
      simp [World.setCell, Array.getElem?_modify, show e.1 ≠ a.block by have := hse.1.lt; omega]) hgs.size) hp
  have htx := (hI.1 x (List.mem_of_getElem? hx)).2.2
  have HS := Lib.hid (And.intro hS1 (And.intro hgs (And.intro hFe (And.intro hM2 (And.intro hI2 (And.intro hse1 (And.intro hF htx)))))))
  have HM := Lib.hid (And.intro hown (And.intro hkey (And.intro hD hat0)))
  have HX := Lib.hid (And.intro hil (And.intro hes (And.intro hLs htl)))
  have H1 := Lib.hid h1
  have hset2 : ∀ y : Sn, (L.set i (x.1, x.2.1, 0)).set i y = L.set i y := fun y => List.set_set ..
  have HSS := Lib.hid hset2
  have hsb2 : ∀ k, F k → k < W1.heap.size := hS1.lt
  have HLT := Lib.hid hsb2
  by_cases hpos : 0 < tl
  · have dp : decide (0 < (tl : Int)) = true := decide_eq_true (by omega)
    have h2 := clone_any At ct tl t htl W1.heap.size W1 (Nat.le_refl _) hr1 (by have := ht.1; omega)
    have H2 := Lib.hid h2
    have HT := Lib.hid (And.intro ht htl)
    have f1 := hse1.1.frozen 1
    have d1 := hse1.1.cell 1
    unfold cellsS tokV at d1
    simp only [List.getElem?_cons_succ, List.getElem?_cons_zero] at d1
    have hel := hse1.1.lt
    clear hSI hS hM hI hx he hse hil hF hat0 h1 hne hS1 hgs hes hLs hse1 hFe hM2 hI2 hr1 hr hA ht htl hown hkey hD hask hxo h0 h2 hset2 htx hsb2 d1 f1
    go_enter Try.func12, Try.ntmps12
    go_wp2_with (first
      | (at_lookup; refine wpList_lookup_own_ok_int _ rfl _ _ 60 rfl 2 3 .i64 law64 Try.underlying60 Try.underlying3 (zeroE _) mb m D rfl HM.out.1 _ _ rfl HM.out.2.1 ?_; intro cc hat hwc; rw [HM.out.2.2.1]; obtain rfl : cc = (i : Int) + 1 := (by have h := (HM.out.2.2.2 (.lit (.int .i64 0))).symm.trans hat; injection h with h; injection h with _ h; exact h.symm); clear hat hwc))
    refine H1.out.mono ?_
    rintro e1 w1 ⟨rfl, rfl⟩
    go_wp2_with fail
    refine H2.out.mono ?_
    rintro e2 w2 ⟨A2, c2, rfl, o2, b2⟩
    have hS2 := HS.out.1.below b2
    have hb2 := HS.out.2.2.2.2.2.1.1.same (b2.block e.1 (by exact hel))
    have f1 := hb2.frozen 1
    have d1 := hb2.cell 1
    unfold cellsS tokV at d1
    simp only [List.getElem?_cons_succ, List.getElem?_cons_zero] at d1
    have hS3 := hS2.setTok (i := i) (x := (x.1, x.2.1, 0)) (e := e) HX.out.2.2.1 HX.out.2.1 t (At := A2) (ct := c2) (B := W1.heap.size) (by rw [HT.out.2]; exact o2)
    rw [HSS.out, HT.out.2] at hS3
    have hg3 := gset w2 e.1 1 (.slice A2 tl c2)
    obtain ⟨W3, hW3⟩ : ∃ W3, w2.setCell ⟨e.1, 1, none⟩ (.slice A2 tl c2) = W3 := ⟨_, rfl⟩
    rw [hW3] at hS3 hg3
    have k2 := hS3.1.1.cell 2
    simp only [List.getElem?_cons_succ, List.getElem?_cons_zero] at k2
    have HS3 := Lib.hid (And.intro hS3 (And.intro hg3 b2))
    clear hS2 hb2 hS3 hg3 o2 b2
    go_wp2_with (first
      | (at_delete; refine wpList_delete_own _ rfl _ _ 60 2 rfl 3 law64 Try.underlying60 _ mb m D rfl HS3.out.1.1.2.2 _ _ rfl HM.out.2.1 ?_; intro w4 hown4 hturn4; have HS4 := Lib.hid (And.intro (HS3.out.1.mapped hturn4.grown hown4) hturn4.grown); clear hown4 hturn4))
    have HE : Hid (EndPost L N m F sb w1 op t (.returned (.tuple #[.int .i64 ((i : Int) + 1), .bool true])) w4) := Lib.hid (by
      unfold EndPost
      have ht0 : ¬ t.length = 0 := by have := HT.out.2; omega
      rw [HS.out.2.2.2.2.2.2.1, if_neg ht0]
      refine ⟨rfl, _, ⟨mb, A, c, _, _, by rw [List.length_set]; exact HS4.out.1, HS.out.2.2.2.1 t, HS.out.2.2.2.2.1 t HT.out.1⟩, ?_⟩
      have s1 := HS.out.2.1.size
      have s2 := HS3.out.2.2.size
      refine ⟨(((Chg.of_grown HS.out.2.1 fun g hg => by injection hg with hg; subst hg; exact HS.out.2.2.1).trans (Chg.of_below (F := F) HS3.out.2.2) fun k hk => .inl hk).trans (Chg.of_grown (F := F) HS3.out.2.1 fun g hg => by injection hg with hg; subst hg; exact HS.out.2.2.1) fun k hk => .inl hk).trans (Chg.of_grown (F := F) HS4.out.2 fun g hg => by injection hg with hg; subst hg; exact HS.out.1.2.2.2.1) fun k hk => .inl hk, fun k hk => hk.imp id fun h => by omega⟩)
    go_wp2_with fail
    go_ret2
    exact HE.out
  · have dp : decide (0 < (tl : Int)) = false := decide_eq_false (by omega)
    have ht0 : t.length = 0 := by omega
    rw [if_pos ht0] at hF
    have HFF := Lib.hid hF
    clear hSI hS hM hI hx he hse hil hF hat0 h1 hne hS1 hgs hes hLs hse1 hFe hM2 hI2 hr1 hr hA ht htl hown hkey hD hask hxo h0 hset2 htx hsb2 ht0
    go_enter Try.func12, Try.ntmps12
    go_wp2_with (first
      | (at_lookup; refine wpList_lookup_own_ok_int _ rfl _ _ 60 rfl 2 3 .i64 law64 Try.underlying60 Try.underlying3 (zeroE _) mb m D rfl HM.out.1 _ _ rfl HM.out.2.1 ?_; intro cc hat hwc; rw [HM.out.2.2.1]; obtain rfl : cc = (i : Int) + 1 := (by have h := (HM.out.2.2.2 (.lit (.int .i64 0))).symm.trans hat; injection h with h; injection h with _ h; exact h.symm); clear hat hwc))
    refine H1.out.mono ?_
    rintro e1 w1 ⟨rfl, rfl⟩
    go_wp2_with (first
      | (at_delete; refine wpList_delete_own _ rfl _ _ 60 2 rfl 3 law64 Try.underlying60 _ mb m D rfl HS.out.1.1.2.2 _ _ rfl HM.out.2.1 ?_; intro w4 hown4 hturn4; have HS4 := Lib.hid (And.intro (HS.out.1.mapped hturn4.grown hown4) hturn4.grown); clear hown4 hturn4))
    have HE : Hid (EndPost L N m F sb w1 op t (.returned (.tuple #[.int .i64 ((i : Int) + 1), .bool true])) w4) := Lib.hid (by
      unfold EndPost
      rw [HFF.out]
      refine ⟨rfl, F, ⟨mb, A, c, _, _, by rw [List.length_set]; exact HS4.out.1, HS.out.2.2.2.1 _, HS.out.2.2.2.2.1 _ HS.out.2.2.2.2.2.2.2⟩, ?_⟩
      refine ⟨(Chg.of_grown HS.out.2.1 fun g hg => by injection hg with hg; subst hg; exact HS.out.2.2.1).trans (Chg.of_grown (F := F) HS4.out.2 fun g hg => by injection hg with hg; subst hg; exact HS.out.1.2.2.2.1) fun k hk => .inl hk, fun k hk => .inl hk⟩)
    go_wp2_with fail
    go_ret2
    exact HE.out
end Sess
end Go.Proofs.Ytnmkhccgaedigaa
