/-
  The document's sessions: End.
-/
import Derived.Test.YtnmkhccgaedigaaSessRefBegin
namespace Go.Proofs.Ytnmkhccgaedigaa
namespace Sess
open Go.RowKit Blk Go.Maps
attribute [local go_sem ↓] Go.wp_at_zero Go.wp_at_succ
section
variable {G : Nat → Prop} {w : World} {rb : Nat} {N : Int} {L : List Sn}
/-- A session gets a token that was made since then. -/
theorem RI.token (h : RI G w rb N L) {i : Nat} {x : Sn} (hx : L[i]? = some x) :
    ∃ A c n g, L.length = n ∧ i < n ∧ A = some ⟨g, 0, none⟩ ∧ rb ≠ g ∧ ∀ V, Below w.heap.size w V → V.cell? ⟨rb, 1, none⟩ = some (.slice A n c) ∧ (∃ v, V.cell? ⟨g, i * 3 + 1, none⟩ = some v) ∧ V.frozen? ⟨g, i * 3 + 1, none⟩ = false ∧
      ∀ (t : List Int) (At : Option Addr) (ct B : Nat), w.heap.size ≤ B → V.ownsRow B 5 1 (.slice At t.length ct) t.length (nums .u8 t) →
        ∃ G', RI G' (V.setCell ⟨g, i * 3 + 1, none⟩ (.slice At t.length ct)) rb N (L.set i (x.1, t, x.2.2)) ∧ Stp G w G' (V.setCell ⟨g, i * 3 + 1, none⟩ (.slice At t.length ct)) := by
  obtain ⟨A, c, l, e, hS⟩ := h
  have hil : i < L.length := (List.getElem?_eq_some_iff.1 hx).1
  have hlL : l.length = L.length := by rw [← e, List.length_map]
  rw [← e, List.getElem?_map] at hx
  obtain ⟨y, hyl, hye⟩ := Option.map_eq_some_iff.1 hx
  obtain ⟨y1, At0, ct0⟩ := y
  simp only at hye
  subst hye
  obtain ⟨g, cap, hv, _, hg⟩ := hS.1.2.form (by omega)
  injection hv with hA _ hcap
  have hne : rb ≠ g := fun q => own_ne hS.1.2 hS.1.1 (by decide) (by rw [hA, q]; rfl)
  refine ⟨A, c, l.length, g, hlL.symm, by omega, hA, hne, fun V hV => ?_⟩
  have hSV := hS.below hV
  have h5 := hSV.1.2
  rw [hA, hcap] at h5
  have c1 := hSV.1.1.cell 1
  simp only [List.getElem?_cons_zero, List.getElem?_cons_succ] at c1
  refine ⟨c1, ⟨_, by rw [h5.cellAt (i * 3 + 1) (by omega), rcs_at l i _ hyl 1 (by omega)]; rfl⟩, h5.frozenAt _, fun t At ct B hB ho => ⟨fun k => G k ∨ (w.heap.size ≤ k ∧ k < V.heap.size), ⟨A, c, l.set i ((y1.1, t, y1.2.2), At, ct), by rw [List.map_set, e], ?_⟩, ?_, fun k hk => hk.imp id fun q => q.1⟩⟩
  · rw [List.length_set]
    refine hSV.turn (r := 1) (y := ((y1.1, t, y1.2.2), At, ct)) hyl hA (by omega) rfl (own_base0 ho) (fun q hq => .inr ⟨Nat.le_trans hB (ho.lt q hq).1, (ho.lt q hq).2⟩) (fun _ => .inl) fun k hk => ?_
    rcases hk with hk | hk
    · exact hSV.lt k hk
    · exact hk.2
  · exact (Chg.of_below hV).trans (Chg.of_grown (gset V g (i * 3 + 1) _) fun q hq => by injection hq with hq; subst hq; exact hS.2.2.2.1 _ (by rw [hA]; rfl)) fun j hj => .inl hj
def REnd (G : Nat → Prop) (w : World) (rb : Nat) (N : Int) (L' : List Sn) (num : Int) (ok : Bool) (e : Ending) (w' : World) : Prop :=
  e = .returned (.tuple #[.int .i64 num, .bool ok]) ∧ ∃ G', Hid (RI G' w' rb N L' ∧ Stp G w G' w')
set_option maxRecDepth 100000 in
set_option maxHeartbeats 1000000 in
theorem rend_any (h : RI G w rb N L) (hn : L.length ≤ 10000000000000) (hI : InvS N L) (op : Int) (At : Option Addr) (ct tl : Nat) (t : List Int) (htl : t.length = tl) (ht : OkT t) (hr : Ns .u8 w w.heap.size At t) (hAG : 0 < t.length → ∀ a, At = some a → ¬ G a.block) {L' : List Sn} {num : Int} {ok : Bool} (hF : endF L op t = (L', num, ok)) :
    Calls Try.prog 13 #[hd rb, .int .i64 op, .slice At tl ct] w (REnd G w rb N L' num ok) := by
  have H1 := Lib.hid (rfind_any h hn hI op)
  by_cases ha : askF L op = true
  case neg =>
    rw [findF_none ha] at H1
    rw [endF_none t fun i hi => ha (askF_iff.2 ⟨i, hi⟩)] at hF
    injection hF with q1 q2
    injection q2 with q2 q3
    subst q1 q2 q3
    have HE := Lib.hid h
    clear h hn hI ha hr ht htl
    go_enter Try.func13, Try.ntmps13
    go_wp2_with fail
    refine H1.out.mono ?_
    rintro e w1 ⟨rfl, rfl⟩
    go_wp2_with fail
    go_ret2
    exact ⟨rfl, G, Lib.hid ⟨HE.out, Stp.refl _ _⟩⟩
  obtain ⟨i, x, hx, hask, hj⟩ := findF_ask hI ha
  rw [hj] at H1
  rw [endF_some hI hx hask t] at hF
  injection hF with q1 q2
  injection q2 with q2 q3
  subst q1 q2 q3
  obtain ⟨A, c, n, g, At1, ct1, hn', hin, hA, c0, c1, ⟨e0, e1, e2⟩, hfz, _, _, hset⟩ := h.at hx
  subst hA
  obtain ⟨hN, hS⟩ := hset 0
  obtain ⟨W, hW⟩ : ∃ W, w.setCell ⟨g, i * 3 + 2, none⟩ (.int .i64 0) = W := ⟨_, rfl⟩
  rw [hW] at hN hS
  have f0 := hfz (i * 3 + 2)
  obtain ⟨k, hk⟩ : ∃ k : Int, (i : Int) + 1 = k := ⟨_, rfl⟩
  rw [hk] at H1 ⊢
  have d0 : (k == 0) = false := by simp; omega
  have w1 : IntKind.i64.wrap (k - 1) = (i : Int) := by rw [← hk, show (i : Int) + 1 - 1 = i by omega]; exact Go.IntWalk.i64_in _ (by omega)
  have z1 : (0 : Int) ≤ (i : Int) := by omega
  have z2 : (i : Int) < (n : Int) := by omega
  by_cases h0 : t.length = 0
  · rw [if_pos h0]
    have d1 : decide (0 < (tl : Int)) = false := decide_eq_false (by omega)
    have d1' : decide (0 < tl) = false := decide_eq_false (by omega)
    have HE := Lib.hid (And.intro hN hS)
    clear h hn hI ha hr ht htl hx hask hj hn' hin hset hfz hN hS hk h0
    go_enter Try.func13, Try.ntmps13
    go_wp2_with fail
    refine H1.out.mono ?_
    rintro e w1 ⟨rfl, rfl⟩
    go_wp2_with fail
    go_ret2
    exact ⟨rfl, G, HE⟩
  · rw [if_neg h0]
    have d1 : decide (0 < (tl : Int)) = true := decide_eq_true (by omega)
    have d1' : decide (0 < tl) = true := decide_eq_true (by omega)
    obtain ⟨i0, hi0, hz0, hz1, hz2⟩ := info_parts Facts.info5
    have hil : i < L.length := by omega
    obtain ⟨A2, c2, n2, g2, hn2, hin2, hA2, hne2, htok⟩ := hN.token (List.getElem?_set_self hil)
    obtain rfl : n2 = n := by rw [List.length_set] at hn2; omega
    subst hA2
    have hsl : ∀ k, G k → k < W.heap.size := hN.lt
    have hws : w.heap.size ≤ W.heap.size := hS.1.size
    -- the given token, at every later world
    obtain ⟨tb, to_, hAt, htb, htc⟩ := hr (by omega)
    subst hAt
    have hWt : ∀ j, j < t.length → W.cell? ⟨tb, to_ + j, none⟩ = some (.int .u8 (t.getD j 0)) := fun j hj => (World.cell?_of_block (a := ⟨tb, to_ + j, none⟩) (hS.1.block tb htb (hAG (by omega) _ rfl))).trans (htc j hj)
    have hrow := World.ownsRow_lit (base := W.heap.size) (e := 5) (size := 1) W #[] 0 (Nat.le_refl _) (by unfold maxLen; omega) rfl
    have hal : Below W.heap.size W (W.alloc (.cells #[] 5)) := (Below.refl _ W).alloc (Nat.le_refl _) _
    have hnews : ∀ j u, (nums .u8 t)[j]? = some u → (W.alloc (.cells #[] 5)).cell? ((⟨tb, to_, none⟩ : Addr).add j) = some u := fun j u hu => by
      have hj : j < t.length := by
        have := (List.getElem?_eq_some_iff.1 hu).1
        rwa [nums_length] at this
      rw [Addr.add_lit, hal.cell (p := ⟨tb, to_ + j, none⟩) (by simp only; omega), hWt j hj, ← hu]
      simp only [nums, List.getElem?_map, List.getD_eq_getElem?_getD, List.getElem?_eq_getElem hj, Option.map_some, Option.getD_some]
    have hone : ∀ u ∈ nums .u8 t, u.oneCell' = true := fun u hu => by
      obtain ⟨y, _, rfl⟩ := List.mem_map.1 hu
      rfl
    have hnl : (nums .u8 t).length = tl * 1 := by rw [nums_length]; omega
    have htb2 : tl ≤ 140737488351232 := by have := ht.1; omega
    have k0 : (W.drew).cell? ⟨rb, 1, none⟩ = some (.slice (some ⟨g2, 0, none⟩) n2 c2) := (htok W (Below.refl _ _)).1
    have ka : (W.alloc (.cells #[] 5)).cell? ⟨rb, 1, none⟩ = some (.slice (some ⟨g2, 0, none⟩) n2 c2) := (htok _ hal).1
    have htl0 : 0 < tl := by omega
    have HT := Lib.hid (And.intro htok (And.intro htl (And.intro hne2 (And.intro hS (And.intro hrow (And.intro hnews (And.intro hone hnl)))))))
    clear h hn hI ha hr ht htl hx hask hj hn' hin hset hfz hN hS hk h0 hn2 hin2 htok hsl hws htc htb hWt hrow hal hnews hone hnl hAG hil hne2 e0 e1
    go_enter Try.func13, Try.ntmps13
    go_wp2_with fail
    refine H1.out.mono ?_
    rintro e w1 ⟨rfl, rfl⟩
    go_wp2_with fail
    go_region_held3 (fun V => V.cell? ⟨rb, 1, none⟩ = some (.slice (some ⟨g2, 0, none⟩) n2 c2)) (first | exact k0 | exact ka | exact r2 | exact r1)
      (first | (refine step_append_lies _ (by rfl) _ _ _ (by rfl) W.heap.size 5 i0 _ 1 1 Try.underlying32 hi0 hz0 hz1 hz2 (by rfl) (by omega) (.slice (some ⟨W.heap.size, 0, none⟩) 0 0) 0 [] (by rfl) (by exact HT.out.2.2.2.2.1) ⟨tb, to_, none⟩ tl ct (nums .u8 t) (by rfl) HT.out.2.2.2.2.2.2.2 (by exact HT.out.2.2.2.2.2.1) HT.out.2.2.2.2.2.2.1 (by omega) (by unfold maxLen; omega) (by omega) (by simp [World.drew]) (W.heap.size + 1) (by simp [World.drew]) ?_; intro g7 cap7 w7 o7 gr7 at7 hl7; rw [Nat.zero_add, List.nil_append] at o7; have b7 : Below W.heap.size W w7 := Below.grown (by first | exact ((Below.refl _ _).drew).alloc (Nat.le_refl _) _ | exact ((Below.refl _ _).alloc (Nat.le_refl _) _).drew) gr7 (by simp [World.drew]) (fun j hj => by injection hj with hj; simp only at hj; omega); obtain ⟨r1, ⟨v0, hv0⟩, hf0, hto⟩ := HT.out.1 w7 b7; have r2 : (w7.setCell ⟨g2, i * 3 + 1, none⟩ (.slice (some ⟨g7, 0, none⟩) tl cap7)).cell? ⟨rb, 1, none⟩ = some (.slice (some ⟨g2, 0, none⟩) n2 c2) := (World.cell?_setCell_other _ _ _ _ (fun e => HT.out.2.2.1 (by injection e with e1; exact e1.symm))).trans r1))
    go_wp2_with fail
    go_ret2
    have hlt := HT.out.2.1
    obtain ⟨G', hRI, hSt⟩ := hto t (some ⟨g7, 0, none⟩) cap7 W.heap.size (Nat.le_refl _) (by rw [hlt]; exact o7)
    rw [hlt] at hRI hSt
    rw [List.set_set] at hRI
    exact ⟨rfl, G', Lib.hid ⟨hRI, HT.out.2.2.2.1.trans hSt⟩⟩
end
end Sess
end Go.Proofs.Ytnmkhccgaedigaa
