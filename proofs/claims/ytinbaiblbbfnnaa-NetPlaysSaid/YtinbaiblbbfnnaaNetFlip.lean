/-
  net: Flip, Tally, Part.
-/
import Derived.Test.YtinbaiblbbfnnaaNetBeside
import Derived.BigRegion
namespace Go.Proofs.Ytinbaiblbbfnnaa
namespace Net
open Go.RowKit Blk Go.Maps
attribute [local go_sem ↓] Go.wp_at_zero Go.wp_at_succ
theorem xor_in {a x : Int} (ha : 0 ≤ a ∧ a ≤ 255) (hx : 0 ≤ x ∧ x ≤ 255) : 0 ≤ bits .xor .u8 a x ∧ bits .xor .u8 a x ≤ 255 := by
  rw [u8_xor a x (by omega) (by omega) (by omega) (by omega)]
  have h1 := Nat.xor_lt_two_pow (n := 8) (x := a.toNat) (y := x.toNat) (by omega) (by omega)
  exact ⟨by omega, by omega⟩
theorem xor_back {a x : Int} (ha : 0 ≤ a ∧ a ≤ 255) (hx : 0 ≤ x ∧ x ≤ 255) : bits .xor .u8 (bits .xor .u8 a x) x = a := by
  have h0 := xor_in ha hx
  rw [u8_xor _ x (by omega) (by omega) (by omega) (by omega), u8_xor a x (by omega) (by omega) (by omega) (by omega)]
  rw [Int.toNat_natCast, Nat.xor_assoc, Nat.xor_self, Nat.xor_zero]
  omega
/-- A packet with a byte turned. -/
def flipP (x : Pk) (at_ : Nat) (z : Int) : Pk := (x.1, x.2.1, x.2.2.set at_ z)
section
variable {F : Nat → Prop} {w : World} {nb mb n c : Nat} {A : Option Addr} {l : List PE} {D : DataW Unit} {m : Nat} {P : List Pk} {s t u : Int} {C : Ad → Ad → Bool}
theorem nums_set (zs : List Int) (j : Nat) (z : Int) : (nums .u8 zs).set j (.int .u8 z) = nums .u8 (zs.set j z) := by unfold nums; rw [List.map_set]
theorem NO.flip (h : NO F w nb mb A c n l s t u m D) {i : Nat} {x : PE} (hx : l[i]? = some x) {g : Nat} (hA : x.2.1 = some ⟨g, 0, none⟩) (j : Nat) (z : Int) (hz : 0 ≤ z ∧ z ≤ 255) :
    NO F (w.setCell ⟨g, j, none⟩ (.int .u8 z)) nb mb A c n (l.set i (flipP x.1 j z, x.2)) s t u m D := by
  have hg := gset w g j (.int .u8 z)
  obtain ⟨⟨h1, h2, h3⟩, ⟨h4, h5, h6⟩, h8, h9, h10, h11⟩ := h
  obtain ⟨x1, x2, x3⟩ := h6 x (List.mem_of_getElem? hx)
  have hdx : dV x = .slice (some ⟨g, 0, none⟩) x.1.2.2.length x.2.2 := by unfold dV; rw [hA]
  have hown : (dV x).ownBlock = some g := by rw [hdx]; rfl
  have hd' : dV (flipP x.1 j z, x.2) = dV x := by unfold dV flipP; simp
  have hpc : pc (flipP x.1 j z, x.2) = pc x := by unfold pc; rw [hd']; rfl
  have hil := (List.getElem?_eq_some_iff.1 hx).1
  have hpcs : pcs (l.set i (flipP x.1 j z, x.2)) = pcs l := by
    unfold pcs
    rw [List.flatMap_def, List.flatMap_def, List.map_set, hpc]
    congr 1
    refine List.ext_getElem? fun k => ?_
    by_cases hk : k = i
    · subst hk
      rw [List.getElem?_set_self (by simpa using hil), List.getElem?_map, hx]
      rfl
    · rw [List.getElem?_set_ne (fun q => hk q.symm)]
  refine ⟨⟨h1.kept hg (fun q => own_ne x1 h1 (by decide) (by rw [hown, q])), ?_, map_same h3 (hg.block mb (h11 mb h9) fun q => own_ne_map h3 x1 hown (by injection q with q; exact q.symm))⟩, ⟨by simpa using h4, ?_, fun y hy => ?_⟩, h8, h9, h10, fun k hk => Nat.lt_of_lt_of_le (h11 k hk) hg.size⟩
  · rw [hpcs]
    exact own_keep h2 fun g' hg' => hg.block g' (h11 g' (h10 g' hg')) fun q => own_ne2 x1 h2 (by decide) hown (by rw [hg', q])
  · rw [List.pairwise_iff_getElem]
    intro a b ha hb hab
    have key := List.pairwise_iff_getElem.1 h5 a b (by simpa using ha) (by simpa using hb) hab
    have e1 : ∀ k (hk : k < (l.set i (flipP x.1 j z, x.2)).length), dV ((l.set i (flipP x.1 j z, x.2))[k]) = dV (l[k]'(by simpa using hk)) := fun k hk => by
      rw [List.getElem_set]
      split
      · rename_i hik
        subst hik
        rw [hd', (List.getElem?_eq_some_iff.1 hx).2]
      · rfl
    unfold Apart at key ⊢
    rw [e1 a ha, e1 b hb]
    exact key
  · obtain ⟨k, hk⟩ := List.getElem?_of_mem hy
    by_cases hki : k = i
    · subst hki
      rw [List.getElem?_set_self hil] at hk
      injection hk with hk
      subst hk
      refine ⟨?_, fun g' hg' => x2 g' (by rwa [hd'] at hg'), ?_⟩
      · rw [hdx] at x1
        have := (x1.stored j (.int .u8 z)).1
        rw [nums_set] at this
        rw [hd', hdx]
        simpa [flipP] using this
      · obtain ⟨q1, q2, q3⟩ := x3
        refine ⟨q1, by simpa [flipP] using q2, fun y hy => ?_⟩
        rcases List.mem_or_eq_of_mem_set hy with hy | rfl
        · exact q3 y hy
        · exact hz
    · rw [List.getElem?_set_ne (fun q => hki q.symm)] at hk
      obtain ⟨g1, g2, g3⟩ := h6 y (List.mem_of_getElem? hk)
      have hyx : (dV y).ownBlock ≠ some g := fun hyx => by
        rcases Nat.lt_or_gt_of_ne hki with q | q
        · have := List.pairwise_iff_getElem.1 h5 k i (List.getElem?_eq_some_iff.1 hk).1 hil q
          rw [(List.getElem?_eq_some_iff.1 hk).2, (List.getElem?_eq_some_iff.1 hx).2] at this
          exact absurd hown (this g hyx)
        · have := List.pairwise_iff_getElem.1 h5 i k hil (List.getElem?_eq_some_iff.1 hk).1 q
          rw [(List.getElem?_eq_some_iff.1 hk).2, (List.getElem?_eq_some_iff.1 hx).2] at this
          exact absurd hyx (this g hown)
      exact ⟨own_keep g1 fun g' hg' => hg.block g' (h11 g' (g2 g' hg')) fun q => hyx (by rw [hg', q]), g2, g3⟩
theorem NI.flip (h : NI F w nb P s t u C m) {i : Nat} {x : Pk} (hx : P[i]? = some x) : ∃ A c n g Ad cd, n = P.length ∧ i < n ∧ n ≤ 4096 ∧ w.cell? ⟨nb, 0, none⟩ = some (.slice A n c) ∧ A = some ⟨g, 0, none⟩ ∧ w.cell? ⟨g, i * 5 + 4, none⟩ = some (.slice Ad x.2.2.length cd) ∧ OkP x ∧
    (0 < x.2.2.length → ∃ b, Ad = some ⟨b, 0, none⟩ ∧ ∀ j, j < x.2.2.length → w.cell? ⟨b, j, none⟩ = some (.int .u8 (x.2.2.getD j 0)) ∧ w.frozen? ⟨b, j, none⟩ = false ∧
      ∀ z, 0 ≤ z ∧ z ≤ 255 → NI F (w.setCell ⟨b, j, none⟩ (.int .u8 z)) nb (P.set i (flipP x j z)) s t u C m ∧ Stp F w F (w.setCell ⟨b, j, none⟩ (.int .u8 z))) := by
  obtain ⟨⟨a1, a2⟩, ⟨b1, b2⟩, zs⟩ := x
  obtain ⟨mb, A, c, l, D, e, hS, hM, hl⟩ := h
  have hil : i < P.length := (List.getElem?_eq_some_iff.1 hx).1
  have hlP : l.length = P.length := by rw [← e, List.length_map]
  rw [← e, List.getElem?_map] at hx
  obtain ⟨x, hxl, hxe⟩ := Option.map_eq_some_iff.1 hx
  obtain ⟨x1, Ad, cd⟩ := x
  simp only at hxe
  subst hxe
  have c0 := hS.1.1.cell 0
  simp only [List.getElem?_cons_zero] at c0
  obtain ⟨g, cap, hv, _, hg⟩ := hS.1.2.1.form (by omega)
  injection hv with hA _ hcap
  have h5 := hS.1.2.1
  rw [hA, hcap] at h5
  have hp := hS.2.1.2.2 _ (List.mem_of_getElem? hxl)
  refine ⟨A, c, l.length, g, Ad, cd, hlP, by omega, hl, c0, hA, ?_, hp.2.2, fun h0 => ?_⟩
  · rw [h5.cellAt (i * 5 + 4) (by omega), pcs_at l hxl 4 (by omega)]
    rfl
  · obtain ⟨b, hb1, _, hb3, hb4⟩ := own_rw hp.1 h0
    refine ⟨b, hb1, fun j hj => ⟨?_, hb4.frozen j, fun z hz => ⟨⟨mb, A, c, l.set i (flipP ((a1, a2), (b1, b2), zs) j z, Ad, cd), D, by rw [List.map_set, e], ?_, hM, by simpa using hl⟩, Chg.of_grown (gset w b j _) fun g hg => by injection hg with hg; subst hg; exact hp.2.1 _ (by unfold dV; rw [hb1]; rfl), fun _ => .inl⟩⟩⟩
    · obtain ⟨b', off, q1, _, q2⟩ := own_ns (c := cd) (n := zs.length) hp.1 (by simpa using h0)
      have hb1' : Ad = some ⟨b, 0, none⟩ := hb1
      rw [hb1'] at q1
      injection q1 with q1
      injection q1 with q3 q4
      subst q3 q4
      have := q2 j hj
      rwa [Nat.zero_add] at this
    · rw [List.length_set]
      exact hS.flip hxl hb1 j z hz
theorem flip_out (h : NI F w nb P s t u C m) (i at_ x : Int) (hi : ¬ (0 ≤ i ∧ i < P.length)) :
    Calls Try.prog 22 #[hd nb, .int .i64 i, .int .i64 at_, .int .u8 x] w (fun e w' => e = .returned (.bool false) ∧ w' = w) := by
  have H1 := Lib.hid (hasF h i hi)
  clear h hi
  go_enter Try.func22, Try.ntmps22
  go_wp2_with fail
  refine H1.out.mono ?_
  rintro e w2 ⟨rfl, rfl⟩
  go_wp2_with fail
  go_ret
  exact ⟨rfl, rfl⟩
theorem flip_no (h : NI F w nb P s t u C m) {i : Nat} {p : Pk} (hx : P[i]? = some p) (at_ x : Int) (k : Nat) (hk : p.2.2.length = k) (ha : ¬ (0 ≤ at_ ∧ at_ < k)) :
    Calls Try.prog 22 #[hd nb, .int .i64 i, .int .i64 at_, .int .u8 x] w (fun e w' => e = .returned (.bool false) ∧ w' = w) := by
  have H1 := Lib.hid (hasT h i (List.getElem?_eq_some_iff.1 hx).1)
  obtain ⟨A, c, n, g, Ad, cd, hn, hin, hn4, c0, hA, c4, _⟩ := h.flip hx
  rw [hk] at c4
  subst hA
  have z1 : (0 : Int) ≤ (i : Int) := by omega
  have z2 : (i : Int) < (n : Int) := by omega
  by_cases h1 : at_ < 0
  · have d1 : decide (at_ < 0) = true := decide_eq_true h1
    clear h hx hk ha hn
    go_enter Try.func22, Try.ntmps22
    go_wp2_with fail
    refine H1.out.mono ?_
    rintro e w2 ⟨rfl, rfl⟩
    go_wp2_with fail
    go_ret
    exact ⟨rfl, rfl⟩
  · have d1 : decide (at_ < 0) = false := decide_eq_false h1
    have d2 : decide ((k : Int) ≤ at_) = true := decide_eq_true (by omega)
    clear h hx hk ha hn
    go_enter Try.func22, Try.ntmps22
    go_wp2_with fail
    refine H1.out.mono ?_
    rintro e w2 ⟨rfl, rfl⟩
    go_wp2_with fail
    go_ret
    exact ⟨rfl, rfl⟩
theorem flip_yes (h : NI F w nb P s t u C m) {i : Nat} {p : Pk} (hx : P[i]? = some p) (j : Nat) (k : Nat) (hk : p.2.2.length = k) (hj : j < k) (x : Int) (hx8 : 0 ≤ x ∧ x ≤ 255) :
    Calls Try.prog 22 #[hd nb, .int .i64 i, .int .i64 j, .int .u8 x] w (fun e w' => e = .returned (.bool true) ∧ Hid (NI F w' nb (P.set i (flipP p j (bits .xor .u8 (p.2.2.getD j 0) x))) s t u C m ∧ Stp F w F w')) := by
  have H1 := Lib.hid (hasT h i (List.getElem?_eq_some_iff.1 hx).1)
  obtain ⟨A, c, n, g, Ad, cd, hn, hin, hn4, c0, hA, c4, hok, hby⟩ := h.flip hx
  rw [hk] at c4
  obtain ⟨b, hb, hat⟩ := hby (by omega)
  subst hA
  subst hb
  obtain ⟨q1, q2, q3⟩ := hat j (by omega)
  obtain ⟨a, ha⟩ : ∃ a, p.2.2.getD j 0 = a := ⟨_, rfl⟩
  have ha8 : 0 ≤ a ∧ a ≤ 255 := by
    have hjl : j < p.2.2.length := by omega
    refine hok.2.2 a ?_
    rw [← ha, List.getD_eq_getElem?_getD, List.getElem?_eq_getElem hjl]
    exact List.getElem_mem _
  rw [ha] at q1 ⊢
  have HQ := Lib.hid (q3 (bits .xor .u8 a x) (xor_in ha8 hx8))
  have z1 : (0 : Int) ≤ (i : Int) := by omega
  have z2 : (i : Int) < (n : Int) := by omega
  have y1 : (0 : Int) ≤ (j : Int) := by omega
  have y2 : (j : Int) < (k : Int) := by omega
  have d1 : decide ((j : Int) < 0) = false := decide_eq_false (by omega)
  have d2 : decide ((k : Int) ≤ (j : Int)) = false := decide_eq_false (by omega)
  clear h hx hk hn hok hby hat q3 ha ha8
  go_enter Try.func22, Try.ntmps22
  go_wp2_with fail
  refine H1.out.mono ?_
  rintro e w2 ⟨rfl, rfl⟩
  go_wp2_with fail
  go_ret
  exact ⟨rfl, HQ⟩
end
end Net
end Go.Proofs.Ytinbaiblbbfnnaa
