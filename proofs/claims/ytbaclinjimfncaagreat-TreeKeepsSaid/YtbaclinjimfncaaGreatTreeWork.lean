/-
  What a place's hash is made of, and the hash.
-/
import Derived.Test.YtbaclinjimfncaaGreatTreeRecs
import Derived.Test.YtbaclinjimfncaaGreatTreeKids
namespace Go.Proofs.YtbaclinjimfncaaGreat
namespace Tree
open Go.RowKit Vers Num Ring Disk Blk
open Go.Proofs.YtbaclinjimfncaaGreat.Code hiding Bn
attribute [local go_sem ↓] Go.wp_at_zero Go.wp_at_succ

/-- What work does, for places that are k digits short of a leaf's: the spot of the place itself may be locked. -/
def WorkC (k : Nat) : Prop := ∀ (F : Nat → Prop) (w : World) (tb : Nat) (mv : Nat → Option Nat) (f : Fp) (all : List Rc) (Bz : List Int → Prop), TR F w tb mv f all Bz → all.length ≤ 3518437208882 →
  ∀ (A : Option Addr) (c n : Nat) (p : List Int), p.length = n → okP p → p.length + k = 2 → Ns .i64 w w.heap.size A p → (∀ q, okP q → p <+: q → q ≠ p → ¬ Bz q) → Calls Tryz.prog 31 #[hd tb, .slice A n c] w (Told F tb mv f all Bz (hF k all p) w)
/-- What is written of the first i records. -/
def leafK (R : List Rc) (i : Nat) : List Int := leafT (R.take i)
/-- The bytes of i marks, or hashes, have been written. -/
def Written (g : Nat → List Int) (m base : Nat) (w : World) (v q : Value) (wr : World) : Prop :=
  ∃ (i n : Nat) (A : Option Addr) (c : Nat), q = .int .i64 i ∧ i ≤ m ∧ v = .slice A n c ∧ n ≤ 10 * i ∧ Hid ((g i).length = n ∧ wr.ownsRow base 5 1 (.slice A n c) n (nums .u8 (g i)) ∧ Below base w wr)
section
variable {F : Nat → Prop} {w : World} {tb : Nat} {mv : Nat → Option Nat} {f : Fp} {all : List Rc} {Bz : List Int → Prop}
theorem hF_none {k : Nat} {p : List Int} (h : beneath all p = []) : hF k all p = 0 := by cases k <;> unfold hF <;> rw [if_pos h]
set_option maxRecDepth 100000 in
set_option maxHeartbeats 2000000 in
theorem work_none {k : Nat} (h : TR F w tb mv f all Bz) (A : Option Addr) (c n : Nat) (p : List Int) (hn : p.length = n) (hp : okP p) (hr : Ns .i64 w w.heap.size A p) (he : beneath all p = []) :
    Calls Tryz.prog 31 #[hd tb, .slice A n c] w (Told F tb mv f all Bz (hF k all p) w) := by
  have H0 := Lib.hid (any_any h A c n p hn hp hr)
  rw [show decide (beneath all p ≠ []) = false from decide_eq_false (fun h => h he)] at H0
  rw [hF_none he]
  have HT := Lib.hid h
  clear h hn hp hr he
  unfold hd at H0 ⊢
  go_enter Tryz.func31, Tryz.ntmps31
  go_wp2_with fail
  refine H0.out.mono ?_
  rintro e w1 ⟨rfl, q, rfl⟩
  go_wp2_with fail
  go_ret
  exact ⟨rfl, Lib.hid ⟨HT.out.keep (Nat.le_refl _) fun _ _ => rfl, ⟨rfl, rfl, rfl, Nat.le_refl _, fun _ _ _ => rfl⟩⟩⟩

set_option maxRecDepth 100000 in
set_option maxHeartbeats 2000000 in
theorem work_zero : WorkC 0 := by
  intro F w tb mv f all Bz h hN A c n p hn hp hk hr hb
  by_cases he : beneath all p = []
  · exact work_none h A c n p hn hp hr he
  have H0 := Lib.hid (any_any h A c n p hn hp hr)
  rw [show decide (beneath all p ≠ []) = true from decide_eq_true he] at H0
  obtain rfl : n = 2 := by omega
  have HR := Lib.hid (fun (W : World) (hT : TR F W tb mv f all Bz) (hW : Ns .i64 W W.heap.size A p) => recs_any hT hN A c 2 p hn hp (by omega) hW)
  have hx : hF 0 all p = hashL (leafT (beneath all p)) := by unfold hF; rw [if_neg he]
  have hlen := beneath_len all p
  have HOK : Hid (∀ r ∈ beneath all p, okR r) := Lib.hid fun r hr => (h.ok.2 r (beneath_mem.1 hr).1).1
  obtain ⟨R, hR⟩ : ∃ R, beneath all p = R := ⟨_, rfl⟩
  rw [hR] at hx hlen HR HOK
  rw [hx]
  have HT := Lib.hid (And.intro h hr)
  clear hx hR he h hn hp hr hk hb
  unfold hd at H0 HR ⊢
  go_enter Tryz.func31, Tryz.ntmps31
  go_wp2_with fail
  refine H0.out.mono ?_
  rintro e w1 ⟨rfl, q, rfl⟩
  obtain ⟨W, hW⟩ : ∃ W, w.drewN q = W := ⟨_, rfl⟩
  have HW : Hid (TR F W tb mv f all Bz ∧ Below w.heap.size w W ∧ W.heap.size = w.heap.size) := Lib.hid ⟨by rw [← hW]; exact HT.out.1.keep (Nat.le_refl _) fun _ _ => rfl, by rw [← hW]; exact ⟨rfl, rfl, rfl, Nat.le_refl _, fun _ _ => rfl⟩, by rw [← hW]; rfl⟩
  have hK := Lib.hid (HR.out W HW.out.1 (by rw [HW.out.2.2]; exact HT.out.2.below HW.out.2.1))
  rw [hW]
  clear hW H0
  go_wp2_with fail
  refine hK.out.mono ?_
  rintro e w2 ⟨A2, m, c2, ps, rfl, h2, b2⟩
  have HB2 := Lib.hid (And.intro b2 h2.out)
  have hm : m ≤ 3518437208882 := by have := h2.out.2.1; omega
  have HI : Hid (Written (leafK R) m w2.heap.size w2 (.slice none 0 0) (.int .i64 0) w2) := Lib.hid ⟨0, 0, none, 0, rfl, by omega, rfl, by omega, Lib.hid ⟨by simp [leafT, leafK], World.ownsRow_nil _ _ _ _, Below.refl _ _⟩⟩
  clear h2 b2 hK
  go_wp2_with fail
  go_loopw [5, 35] (fun v q wr => Written (leafK R) m w2.heap.size w2 v q wr) (fun _ q _ => m - (intOf q).toNat)
  case atStart => exact HI.out
  case round =>
    clear HI
    obtain ⟨i, n, A3, c3, rfl, hi, rfl, hn10, hst⟩ := hrel
    by_cases hlt : i < m
    · have d1 : (0 : Int) ≤ (i : Int) := by omega
      have d2 : (i : Int) < (m : Int) := by omega
      have hRl : R.length = m := HB2.out.2.2.1.symm
      have hrs := HB2.out.2.2.2.2.rs
      rw [HB2.out.2.1] at hrs
      obtain ⟨pb, off, A4, c4, rfl, _, hbB, k0, k1, k2, k3⟩ := hrs.at hRl hst.out.2.2 hlt rfl
      have hRi : i < R.length := by omega
      have hmem : R.getD i r0 ∈ R := by
        rw [List.getD_eq_getElem?_getD, List.getElem?_eq_getElem hRi]
        exact List.getElem_mem _
      have hok := HOK.out _ hmem
      have HTk : Hid (R.take (i + 1) = R.take i ++ [R.getD i r0]) := Lib.hid (by
        rw [List.take_succ_eq_append_getElem hRi]
        simp [List.getD_eq_getElem?_getD, hRi])
      obtain ⟨r, hrr⟩ : ∃ r, R.getD i r0 = r := ⟨_, rfl⟩
      rw [hrr] at k0 k1 k2 k3 hok HTk
      obtain ⟨key, lv⟩ := r
      simp only at k0 k1 k2 k3
      obtain ⟨ml, hml⟩ : ∃ ml, lv.length = ml := ⟨_, rfl⟩
      rw [hml] at k1 k3
      have hsz := hst.out.2.2.size
      obtain ⟨V, hV⟩ : ∃ V, wr.alloc (.cells #[.string key, .slice A4 ml c4] 45) = V := ⟨_, rfl⟩
      have hbV : Below wr.heap.size wr V := by rw [← hV]; exact (Below.refl _ _).alloc (Nat.le_refl _) _
      have hBV : Bn wr.heap.size 45 [.string key, .slice A4 ml c4] V := by rw [← hV]; exact World.alloc_heap_new _ _
      have v0 := hBV.cell 0
      have v1 := hBV.cell 1
      simp only [List.getElem?_cons_zero, List.getElem?_cons_succ] at v0 v1
      have hvs : Vs V 0 V.heap.size A4 lv := ((k2.below (hbV.mono hsz)).more (Nat.le_trans hsz hbV.size)).less (Nat.zero_le _)
      have hM := Lib.hid (mark_any key A4 c4 ml lv hml hok.2.1 hok.2.2 V hvs)
      have hU : U (markF (key, lv)) := hash_range _
      obtain ⟨x, hx⟩ : ∃ x, markF (key, lv) = x := ⟨_, rfl⟩
      rw [hx] at hM hU
      have HX := Lib.hid hx
      have HO := Lib.hid (And.intro hst.out (And.intro hbV (And.intro hsz hU)))
      have hl10 := halves_len10 hU
      clear hst hvs hx hbV k2 hmem hok hml hrs hU hBV
      go_wp2_with fail
      refine hM.out.mono ?_
      rintro e w3 ⟨rfl, b3⟩
      have o3 := own_below (own_below HO.out.1.2.1 HO.out.2.1 (Nat.le_refl _)) b3 (Nat.le_refl _)
      have s3 := b3.size
      have s4 := HO.out.2.1.size
      have hw3 : w2.heap.size ≤ w3.heap.size := by omega
      have hP := Lib.hid (putHash_any A3 c3 n (leafT (R.take i)) HO.out.1.1 (by omega) x HO.out.2.2.2 w2.heap.size w3 hw3 o3)
      have HB3 := Lib.hid (HO.out.1.2.2.trans ((HO.out.2.1.mono hsz).trans (b3.mono (by omega))))
      clear b3 o3 hM
      go_wp2_with fail
      refine hP.out.mono ?_
      rintro e w4 ⟨A5, c5, rfl, o5, b5⟩
      have HK1 : Hid (leafK R (i + 1) = leafT (R.take i) ++ halves x) := Lib.hid (by unfold leafK; rw [HTk.out]; simp only [leafT, List.flatMap_append, List.flatMap_cons, List.flatMap_nil, List.append_nil, HX.out])
      have HF : Hid (Written (leafK R) m w2.heap.size w2 (.slice A5 (leafT (R.take i) ++ halves x).length c5) (.int .i64 ((i : Int) + 1)) w4) := Lib.hid ⟨i + 1, _, A5, c5, by go_num, by omega, rfl, by have h := HO.out.1.1; unfold leafK at h; rw [List.length_append, h]; omega, Lib.hid ⟨by
          rw [HK1.out], by
          have h := o5.out
          rw [HK1.out]
          exact h, HB3.out.trans b5⟩⟩
      obtain ⟨n5, hn5⟩ : ∃ n5, (leafT (R.take i) ++ halves x).length = n5 := ⟨_, rfl⟩
      rw [hn5] at HF ⊢
      clear o5 b5 hP hn5 hl10
      go_wp2_with fail
      go_roundw
      case rel => exact HF.out
      case measure => simp only [intOf]; omega
    · have him : i = m := by omega
      subst him
      have hfull : R.take i = R := List.take_of_length_le (by have := HB2.out.2.2.1; omega)
      have hst' := hst.out
      unfold leafK at hst'
      simp only [hfull] at hst'
      have hK := Lib.hid (hash_any A3 c3 n (leafT R) hst'.1 (leafT_bytes R) wr (own_ns (n := n) (by have h := hst'.2.1; rw [hst'.1]; exact h)) (by omega))
      have HF : Hid (TR F wr tb mv f all Bz ∧ Chg (fun k => k = tb) w wr) := Lib.hid (by
        have b1 : Below w.heap.size w wr := HW.out.2.1.trans (((HB2.out.1.trans (hst'.2.2.mono HB2.out.1.size))).mono (by rw [HW.out.2.2]; exact Nat.le_refl _))
        exact ⟨HT.out.1.below b1, Chg.of_below b1⟩)
      clear hst hst' hfull
      go_wp2_with fail
      refine hK.out.mono ?_
      rintro e w4 ⟨rfl, rfl⟩
      go_wp2_with fail
      go_ret
      exact ⟨rfl, HF⟩

set_option maxRecDepth 100000 in
set_option maxHeartbeats 2000000 in
theorem work_succ {k : Nat} (HK : HashC k) : WorkC (k + 1) := by
  intro F w tb mv f all Bz h hN A c n p hn hp hk hr hb
  by_cases he : beneath all p = []
  · exact work_none h A c n p hn hp hr he
  have H0 := Lib.hid (any_any h A c n p hn hp hr)
  rw [show decide (beneath all p ≠ []) = true from decide_eq_true he] at H0
  have hn2 : n < 2 := by omega
  have e1 : decide ((n : Int) < 2) = true := decide_eq_true (by omega)
  have HR := Lib.hid (fun (W : World) (hT : TR F W tb mv f all Bz) (hW : Ns .i64 W W.heap.size A p) => kids_some HK hT hN A c n p hn hp hk hW hb)
  have hx : hF (k + 1) all p = hashL (kidsT (fun (d : Nat) => hF k all (p ++ [(d : Int)])) 16) := by rw [hF, if_neg he]
  obtain ⟨h', hh'⟩ : ∃ h' : Nat → Int, (fun (d : Nat) => hF k all (p ++ [(d : Int)])) = h' := ⟨_, rfl⟩
  have HU : Hid (∀ d : Nat, U (h' d)) := Lib.hid fun d => by rw [← hh']; exact hF_range _ _ _
  rw [hh'] at hx HR
  rw [hx]
  have HT := Lib.hid (And.intro h hr)
  clear hx hh' he h hn hp hr hk hb HK
  unfold hd at H0 HR ⊢
  go_enter Tryz.func31, Tryz.ntmps31
  go_wp2_with fail
  refine H0.out.mono ?_
  rintro e w1 ⟨rfl, q, rfl⟩
  obtain ⟨W, hW⟩ : ∃ W, w.drewN q = W := ⟨_, rfl⟩
  have HW : Hid (TR F W tb mv f all Bz ∧ Below w.heap.size w W ∧ W.heap.size = w.heap.size) := Lib.hid ⟨by rw [← hW]; exact HT.out.1.keep (Nat.le_refl _) fun _ _ => rfl, by rw [← hW]; exact ⟨rfl, rfl, rfl, Nat.le_refl _, fun _ _ => rfl⟩, by rw [← hW]; rfl⟩
  have hK := Lib.hid (HR.out W HW.out.1 (by rw [HW.out.2.2]; exact HT.out.2.below HW.out.2.1))
  rw [hW]
  clear hW H0
  go_wp2_with fail
  refine hK.out.mono ?_
  rintro e w2 ⟨g, rfl, h2⟩
  have HB2 := Lib.hid h2.out
  have HI : Hid (Written (kidsT h') 16 w2.heap.size w2 (.slice none 0 0) (.int .i64 0) w2) := Lib.hid ⟨0, 0, none, 0, rfl, by omega, rfl, by omega, Lib.hid ⟨rfl, World.ownsRow_nil _ _ _ _, Below.refl _ _⟩⟩
  clear h2 hK
  go_wp2_with fail
  go_loopw [5, 21] (fun v q wr => Written (kidsT h') 16 w2.heap.size w2 v q wr) (fun _ q _ => 16 - (intOf q).toNat)
  case atStart => exact HI.out
  case round =>
    clear HI
    obtain ⟨i, n', A3, c3, rfl, hi, rfl, hn10, hst⟩ := hrel
    by_cases hlt : i < 16
    · have d1 : (0 : Int) ≤ (i : Int) := by omega
      have d2 : (i : Int) < 16 := by omega
      have hB := HB2.out.2.1.same (hst.out.2.2.block g HB2.out.2.1.lt)
      have c0 : wr.cell? ⟨g, i, none⟩ = some (.int .u64 (h' i)) := by
        rw [hB.cell i]
        simp [nums, hlt]
      obtain ⟨x, hx⟩ : ∃ x, h' i = x := ⟨_, rfl⟩
      have hU : U x := by rw [← hx]; exact HU.out i
      rw [hx] at c0
      have hl10 := halves_len10 hU
      have hP := Lib.hid (putHash_any A3 c3 n' (kidsT h' i) hst.out.1 (by omega) x hU w2.heap.size wr hst.out.2.2.size hst.out.2.1)
      have HX := Lib.hid hx
      have HO := Lib.hid hst.out
      clear hB hx hst hU
      go_wp2_with fail
      refine hP.out.mono ?_
      rintro e w4 ⟨A5, c5, rfl, o5, b5⟩
      have HF : Hid (Written (kidsT h') 16 w2.heap.size w2 (.slice A5 (kidsT h' i ++ halves x).length c5) (.int .i64 ((i : Int) + 1)) w4) := Lib.hid ⟨i + 1, _, A5, c5, by go_num, by omega, rfl, by rw [List.length_append, HO.out.1]; omega, Lib.hid ⟨by
          rw [kidsT_succ, HX.out], by
          have h := o5.out
          rw [kidsT_succ, HX.out]
          exact h, HO.out.2.2.trans b5⟩⟩
      obtain ⟨n5, hn5⟩ : ∃ n5, (kidsT h' i ++ halves x).length = n5 := ⟨_, rfl⟩
      rw [hn5] at HF ⊢
      clear o5 b5 hP hn5 hl10 c0
      go_wp2_with fail
      go_roundw
      case rel => exact HF.out
      case measure => simp only [intOf]; omega
    · have him : i = 16 := by omega
      subst him
      have hK := Lib.hid (hash_any A3 c3 n' (kidsT h' 16) hst.out.1 (kidsT_bytes h' 16 HU.out) wr (own_ns (n := n') (by have h := hst.out.2.1; rw [hst.out.1]; exact h)) (by omega))
      have HF : Hid (TR F wr tb mv f all Bz ∧ Chg (fun k => k = tb) w wr) := Lib.hid ⟨HB2.out.2.2.1.below hst.out.2.2, ((Chg.of_below (F := fun k => k = tb) HW.out.2.1).trans HB2.out.2.2.2 (fun j hj => .inl hj)).trans (Chg.of_below (F := fun k => k = tb) hst.out.2.2) (fun j hj => .inl hj)⟩
      clear hst
      go_wp2_with fail
      refine hK.out.mono ?_
      rintro e w4 ⟨rfl, rfl⟩
      go_wp2_with fail
      go_ret
      exact ⟨rfl, HF⟩
end
end Tree
end Go.Proofs.YtbaclinjimfncaaGreat
