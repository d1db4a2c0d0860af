/-
  Several texts of this family in one: TreeWork, TreeDocHash, TreeDocKids, MendRecsRef.
-/
import Derived.Test.YtkfdplfgaddkmaaGreatK24
import Derived.Test.YtkfdplfgaddkmaaGreatK25
import Derived.Test.YtkfdplfgaddkmaaGreatK21
import Derived.Deep.RegionHeld3
import Derived.Deep.DrawnRows
/-
 What a place's hash is made of, and the hash.
-/
namespace Go.Proofs.YtkfdplfgaddkmaaGreat
namespace Tree
open Go.RowKit Vers Num Ring Disk Blk
open Go.Proofs.YtkfdplfgaddkmaaGreat.Code hiding Bn
attribute [local go_sem ↓] Go.wp_at_zero Go.wp_at_succ

def WorkC (k : Nat) : Prop := ∀ (F : Nat → Prop) (w : World) (tb : Nat) (mv : Nat → Option Nat) (f : Fp) (all : List Rc) (Bz : List Int → Prop), TR F w tb mv f all Bz → all.length ≤ 3518437208882 →
 ∀ (A : Option Addr) (c n : Nat) (p : List Int), p.length = n → okP p → p.length + k = 2 → Ns .i64 w w.heap.size A p → (∀ q, okP q → p <+: q → q ≠ p → ¬ Bz q) → Calls Tryz.prog 95 #[hd tb, .slice A n c] w (Told F tb mv f all Bz (hF k all p) w)
def leafK (R : List Rc) (i : Nat) : List Int := leafT (R.take i)
def Written (g : Nat → List Int) (m base : Nat) (w : World) (v q : Value) (wr : World) : Prop :=
 ∃ (i n : Nat) (A : Option Addr) (c : Nat), q = .int .i64 i ∧ i ≤ m ∧ v = .slice A n c ∧ n ≤ 10 * i ∧ Hid ((g i).length = n ∧ wr.ownsRow base 5 1 (.slice A n c) n (nums .u8 (g i)) ∧ Below base w wr)
section
variable {F : Nat → Prop} {w : World} {tb : Nat} {mv : Nat → Option Nat} {f : Fp} {all : List Rc} {Bz : List Int → Prop}
theorem hF_none {k : Nat} {p : List Int} (h : beneath all p = []) : hF k all p = 0 := by cases k <;> unfold hF <;> rw [if_pos h]
set_option maxRecDepth 100000 in
set_option maxHeartbeats 2000000 in
theorem work_none {k : Nat} (h : TR F w tb mv f all Bz) (A : Option Addr) (c n : Nat) (p : List Int) (hn : p.length = n) (hp : okP p) (hr : Ns .i64 w w.heap.size A p) (he : beneath all p = []) :
  Calls Tryz.prog 95 #[hd tb, .slice A n c] w (Told F tb mv f all Bz (hF k all p) w) := by
 have H0 := Lib.hid (any_any h A c n p hn hp hr)
 rw [show decide (beneath all p ≠ []) = false from decide_eq_false (fun h => h he)] at H0
 rw [hF_none he]
 have HT := Lib.hid h
 clear h hn hp hr he
 unfold hd at H0 ⊢
 go_enter Tryz.func95, Tryz.ntmps95
 go_wp2_with fail
 refine H0.out.mono ?_
 rintro e w1 ⟨rfl, q, rfl⟩
 go_wp2_with fail
 go_ret
 exact ⟨rfl, Lib.hid ⟨HT.out.keep (Nat.le_refl _) fun _ _ => rfl, ⟨rfl, rfl, rfl, Nat.le_refl _, fun _ _ _ => rfl⟩⟩⟩

set_option maxRecDepth 100000 in
set_option maxHeartbeats 2000000 in
theorem work_zero : WorkC 0 := by
 intro F w tb mv f all Bz h hN A c n p hn hp hk hr hb
 by_cases he : beneath all p = []
 ·exact work_none h A c n p hn hp hr he
 have H0 := Lib.hid (any_any h A c n p hn hp hr)
 rw [show decide (beneath all p ≠ []) = true from decide_eq_true he] at H0
 obtain rfl : n = 2 := by omega
 have HR := Lib.hid (fun (W : World) (hT : TR F W tb mv f all Bz) (hW : Ns .i64 W W.heap.size A p) => recs_any hT hN A c 2 p hn hp (by omega) hW)
 have hx : hF 0 all p = hashL (leafT (beneath all p)) := by unfold hF; rw [if_neg he]
 have hlen := beneath_len all p
 have HOK : Hid (∀ r ∈ beneath all p, okR r) := Lib.hid fun r hr => (h.ok.2 r (beneath_mem.1 hr).1).1
 obtain ⟨R, hR⟩ : ∃ R, beneath all p = R := ⟨_, rfl⟩
 rw [hR] at hx hlen HR HOK
 rw [hx]
 have HT := Lib.hid (And.intro h hr)
 clear hx hR he h hn hp hr hk hb
 unfold hd at H0 HR ⊢
 go_enter Tryz.func95, Tryz.ntmps95
 go_wp2_with fail
 refine H0.out.mono ?_
 rintro e w1 ⟨rfl, q, rfl⟩
 obtain ⟨W, hW⟩ : ∃ W, w.drewN q = W := ⟨_, rfl⟩
 have HW : Hid (TR F W tb mv f all Bz ∧ Below w.heap.size w W ∧ W.heap.size = w.heap.size) := Lib.hid ⟨by rw [← hW]; exact HT.out.1.keep (Nat.le_refl _) fun _ _ => rfl, by rw [← hW]; exact ⟨rfl, rfl, rfl, Nat.le_refl _, fun _ _ => rfl⟩, by rw [← hW]; rfl⟩
 have hK := Lib.hid (HR.out W HW.out.1 (by rw [HW.out.2.2]; exact HT.out.2.below HW.out.2.1))
 rw [hW]
 clear hW H0
 go_wp2_with fail
 refine hK.out.mono ?_
 rintro e w2 ⟨A2, m, c2, ps, rfl, h2, b2⟩
 have HB2 := Lib.hid (And.intro b2 h2.out)
 have hm : m ≤ 3518437208882 := by have := h2.out.2.1; omega
 have HI : Hid (Written (leafK R) m w2.heap.size w2 (.slice none 0 0) (.int .i64 0) w2) := Lib.hid ⟨0, 0, none, 0, rfl, by omega, rfl, by omega, Lib.hid ⟨by simp [leafT, leafK], World.ownsRow_nil _ _ _ _, Below.refl _ _⟩⟩
 clear h2 b2 hK
 go_wp2_with fail
 go_loopw [5, 35] (fun v q wr => Written (leafK R) m w2.heap.size w2 v q wr) (fun _ q _ => m - (intOf q).toNat)
 case atStart => exact HI.out
 case round =>
  clear HI
  obtain ⟨i, n, A3, c3, rfl, hi, rfl, hn10, hst⟩ := hrel
  by_cases hlt : i < m
  ·have d1 : (0 : Int) ≤ (i : Int) := by omega
   have d2 : (i : Int) < (m : Int) := by omega
   have hRl : R.length = m := HB2.out.2.2.1.symm
   have hrs := HB2.out.2.2.2.2.rs
   rw [HB2.out.2.1] at hrs
   obtain ⟨pb, off, A4, c4, rfl, _, hbB, k0, k1, k2, k3⟩ := hrs.at hRl hst.out.2.2 hlt rfl
   have hRi : i < R.length := by omega
   have hmem : R.getD i r0 ∈ R := by
    rw [List.getD_eq_getElem?_getD, List.getElem?_eq_getElem hRi]
    exact List.getElem_mem _
   have hok := HOK.out _ hmem
   have HTk : Hid (R.take (i + 1) = R.take i ++ [R.getD i r0]) := Lib.hid (by
    rw [List.take_succ_eq_append_getElem hRi]
    simp [List.getD_eq_getElem?_getD, hRi])
   obtain ⟨r, hrr⟩ : ∃ r, R.getD i r0 = r := ⟨_, rfl⟩
   rw [hrr] at k0 k1 k2 k3 hok HTk
   obtain ⟨key, lv⟩ := r
   simp only at k0 k1 k2 k3
   obtain ⟨ml, hml⟩ : ∃ ml, lv.length = ml := ⟨_, rfl⟩
   rw [hml] at k1 k3
   have hsz := hst.out.2.2.size
   obtain ⟨V, hV⟩ : ∃ V, wr.alloc (.cells #[.string key, .slice A4 ml c4] 70) = V := ⟨_, rfl⟩
   have hbV : Below wr.heap.size wr V := by rw [← hV]; exact (Below.refl _ _).alloc (Nat.le_refl _) _
   have hBV : Bn wr.heap.size 70 [.string key, .slice A4 ml c4] V := by rw [← hV]; exact World.alloc_heap_new _ _
   have v0 := hBV.cell 0
   have v1 := hBV.cell 1
   simp only [List.getElem?_cons_zero, List.getElem?_cons_succ] at v0 v1
   have hvs : Vs V 0 V.heap.size A4 lv := ((k2.below (hbV.mono hsz)).more (Nat.le_trans hsz hbV.size)).less (Nat.zero_le _)
   have hM := Lib.hid (mark_any key A4 c4 ml lv hml hok.2.1 hok.2.2 V hvs)
   have hU : U (markF (key, lv)) := hash_range _
   obtain ⟨x, hx⟩ : ∃ x, markF (key, lv) = x := ⟨_, rfl⟩
   rw [hx] at hM hU
   have HX := Lib.hid hx
   have HO := Lib.hid (And.intro hst.out (And.intro hbV (And.intro hsz hU)))
   have hl10 := halves_len10 hU
   clear hst hvs hx hbV k2 hmem hok hml hrs hU hBV
   go_wp2_with fail
   refine hM.out.mono ?_
   rintro e w3 ⟨rfl, b3⟩
   have o3 := own_below (own_below HO.out.1.2.1 HO.out.2.1 (Nat.le_refl _)) b3 (Nat.le_refl _)
   have s3 := b3.size
   have s4 := HO.out.2.1.size
   have hw3 : w2.heap.size ≤ w3.heap.size := by omega
   have hP := Lib.hid (putHash_any A3 c3 n (leafT (R.take i)) HO.out.1.1 (by omega) x HO.out.2.2.2 w2.heap.size w3 hw3 o3)
   have HB3 := Lib.hid (HO.out.1.2.2.trans ((HO.out.2.1.mono hsz).trans (b3.mono (by omega))))
   clear b3 o3 hM
   go_wp2_with fail
   refine hP.out.mono ?_
   rintro e w4 ⟨A5, c5, rfl, o5, b5⟩
   have HK1 : Hid (leafK R (i + 1) = leafT (R.take i) ++ halves x) := Lib.hid (by unfold leafK; rw [HTk.out]; simp only [leafT, List.flatMap_append, List.flatMap_cons, List.flatMap_nil, List.append_nil, HX.out])
   have HF : Hid (Written (leafK R) m w2.heap.size w2 (.slice A5 (leafT (R.take i) ++ halves x).length c5) (.int .i64 ((i : Int) + 1)) w4) := Lib.hid ⟨i + 1, _, A5, c5, by go_num, by omega, rfl, by have h := HO.out.1.1; unfold leafK at h; rw [List.length_append, h]; omega, Lib.hid ⟨by
     rw [HK1.out], by
     have h := o5.out
     rw [HK1.out]
     exact h, HB3.out.trans b5⟩⟩
   obtain ⟨n5, hn5⟩ : ∃ n5, (leafT (R.take i) ++ halves x).length = n5 := ⟨_, rfl⟩
   rw [hn5] at HF ⊢
   clear o5 b5 hP hn5 hl10
   go_wp2_with fail
   go_roundw
   case rel => exact HF.out
   case measure => simp only [intOf]; omega
  ·have him : i = m := by omega
   subst him
   have hfull : R.take i = R := List.take_of_length_le (by have := HB2.out.2.2.1; omega)
   have hst' := hst.out
   unfold leafK at hst'
   simp only [hfull] at hst'
   have hK := Lib.hid (hash_any A3 c3 n (leafT R) hst'.1 (leafT_bytes R) wr (own_ns (n := n) (by have h := hst'.2.1; rw [hst'.1]; exact h)) (by omega))
   have HF : Hid (TR F wr tb mv f all Bz ∧ Chg (fun k => k = tb) w wr) := Lib.hid (by
    have b1 : Below w.heap.size w wr := HW.out.2.1.trans (((HB2.out.1.trans (hst'.2.2.mono HB2.out.1.size))).mono (by rw [HW.out.2.2]; exact Nat.le_refl _))
    exact ⟨HT.out.1.below b1, Chg.of_below b1⟩)
   clear hst hst' hfull
   go_wp2_with fail
   refine hK.out.mono ?_
   rintro e w4 ⟨rfl, rfl⟩
   go_wp2_with fail
   go_ret
   exact ⟨rfl, HF⟩

set_option maxRecDepth 100000 in
set_option maxHeartbeats 2000000 in
theorem work_succ {k : Nat} (HK : HashC k) : WorkC (k + 1) := by
 intro F w tb mv f all Bz h hN A c n p hn hp hk hr hb
 by_cases he : beneath all p = []
 ·exact work_none h A c n p hn hp hr he
 have H0 := Lib.hid (any_any h A c n p hn hp hr)
 rw [show decide (beneath all p ≠ []) = true from decide_eq_true he] at H0
 have hn2 : n < 2 := by omega
 have e1 : decide ((n : Int) < 2) = true := decide_eq_true (by omega)
 have HR := Lib.hid (fun (W : World) (hT : TR F W tb mv f all Bz) (hW : Ns .i64 W W.heap.size A p) => kids_some HK hT hN A c n p hn hp hk hW hb)
 have hx : hF (k + 1) all p = hashL (kidsT (fun (d : Nat) => hF k all (p ++ [(d : Int)])) 16) := by rw [hF, if_neg he]
 obtain ⟨h', hh'⟩ : ∃ h' : Nat → Int, (fun (d : Nat) => hF k all (p ++ [(d : Int)])) = h' := ⟨_, rfl⟩
 have HU : Hid (∀ d : Nat, U (h' d)) := Lib.hid fun d => by rw [← hh']; exact hF_range _ _ _
 rw [hh'] at hx HR
 rw [hx]
 have HT := Lib.hid (And.intro h hr)
 clear hx hh' he h hn hp hr hk hb HK
 unfold hd at H0 HR ⊢
 go_enter Tryz.func95, Tryz.ntmps95
 go_wp2_with fail
 refine H0.out.mono ?_
 rintro e w1 ⟨rfl, q, rfl⟩
 obtain ⟨W, hW⟩ : ∃ W, w.drewN q = W := ⟨_, rfl⟩
 have HW : Hid (TR F W tb mv f all Bz ∧ Below w.heap.size w W ∧ W.heap.size = w.heap.size) := Lib.hid ⟨by rw [← hW]; exact HT.out.1.keep (Nat.le_refl _) fun _ _ => rfl, by rw [← hW]; exact ⟨rfl, rfl, rfl, Nat.le_refl _, fun _ _ => rfl⟩, by rw [← hW]; rfl⟩
 have hK := Lib.hid (HR.out W HW.out.1 (by rw [HW.out.2.2]; exact HT.out.2.below HW.out.2.1))
 rw [hW]
 clear hW H0
 go_wp2_with fail
 refine hK.out.mono ?_
 rintro e w2 ⟨g, rfl, h2⟩
 have HB2 := Lib.hid h2.out
 have HI : Hid (Written (kidsT h') 16 w2.heap.size w2 (.slice none 0 0) (.int .i64 0) w2) := Lib.hid ⟨0, 0, none, 0, rfl, by omega, rfl, by omega, Lib.hid ⟨rfl, World.ownsRow_nil _ _ _ _, Below.refl _ _⟩⟩
 clear h2 hK
 go_wp2_with fail
 go_loopw [5, 21] (fun v q wr => Written (kidsT h') 16 w2.heap.size w2 v q wr) (fun _ q _ => 16 - (intOf q).toNat)
 case atStart => exact HI.out
 case round =>
  clear HI
  obtain ⟨i, n', A3, c3, rfl, hi, rfl, hn10, hst⟩ := hrel
  by_cases hlt : i < 16
  ·have d1 : (0 : Int) ≤ (i : Int) := by omega
   have d2 : (i : Int) < 16 := by omega
   have hB := HB2.out.2.1.same (hst.out.2.2.block g HB2.out.2.1.lt)
   have c0 : wr.cell? ⟨g, i, none⟩ = some (.int .u64 (h' i)) := by
    rw [hB.cell i]
    simp [nums, hlt]
   obtain ⟨x, hx⟩ : ∃ x, h' i = x := ⟨_, rfl⟩
   have hU : U x := by rw [← hx]; exact HU.out i
   rw [hx] at c0
   have hl10 := halves_len10 hU
   have hP := Lib.hid (putHash_any A3 c3 n' (kidsT h' i) hst.out.1 (by omega) x hU w2.heap.size wr hst.out.2.2.size hst.out.2.1)
   have HX := Lib.hid hx
   have HO := Lib.hid hst.out
   clear hB hx hst hU
   go_wp2_with fail
   refine hP.out.mono ?_
   rintro e w4 ⟨A5, c5, rfl, o5, b5⟩
   have HF : Hid (Written (kidsT h') 16 w2.heap.size w2 (.slice A5 (kidsT h' i ++ halves x).length c5) (.int .i64 ((i : Int) + 1)) w4) := Lib.hid ⟨i + 1, _, A5, c5, by go_num, by omega, rfl, by rw [List.length_append, HO.out.1]; omega, Lib.hid ⟨by
     rw [kidsT_succ, HX.out], by
     have h := o5.out
     rw [kidsT_succ, HX.out]
     exact h, HO.out.2.2.trans b5⟩⟩
   obtain ⟨n5, hn5⟩ : ∃ n5, (kidsT h' i ++ halves x).length = n5 := ⟨_, rfl⟩
   rw [hn5] at HF ⊢
   clear o5 b5 hP hn5 hl10 c0
   go_wp2_with fail
   go_roundw
   case rel => exact HF.out
   case measure => simp only [intOf]; omega
  ·have him : i = 16 := by omega
   subst him
   have hK := Lib.hid (hash_any A3 c3 n' (kidsT h' 16) hst.out.1 (kidsT_bytes h' 16 HU.out) wr (own_ns (n := n') (by have h := hst.out.2.1; rw [hst.out.1]; exact h)) (by omega))
   have HF : Hid (TR F wr tb mv f all Bz ∧ Chg (fun k => k = tb) w wr) := Lib.hid ⟨HB2.out.2.2.1.below hst.out.2.2, ((Chg.of_below (F := fun k => k = tb) HW.out.2.1).trans HB2.out.2.2.2 (fun j hj => .inl hj)).trans (Chg.of_below (F := fun k => k = tb) hst.out.2.2) (fun j hj => .inl hj)⟩
   clear hst
   go_wp2_with fail
   refine hK.out.mono ?_
   rintro e w4 ⟨rfl, rfl⟩
   go_wp2_with fail
   go_ret
   exact ⟨rfl, HF⟩
end
end Tree
end Go.Proofs.YtkfdplfgaddkmaaGreat

/-
 The document's hashes.
-/
namespace Go.Proofs.YtkfdplfgaddkmaaGreat
namespace Tree
open Go.RowKit Vers Num Ring Disk Blk
open Go.Proofs.YtkfdplfgaddkmaaGreat.Code hiding Bn
attribute [local go_sem ↓] Go.wp_at_zero Go.wp_at_succ

def textF : Nat → List Rc → List Int → List Int
 | 0, all, p => leafT (beneath all p)
 | k + 1, all, p => kidsT (fun (d : Nat) => hF k all (p ++ [(d : Int)])) 16
theorem hF_text (k : Nat) (all : List Rc) (p : List Int) : hF k all p = if beneath all p = [] then 0 else hashL (textF k all p) := by cases k <;> rfl
def RHashC (k : Nat) : Prop := ∀ (w : World) (A : Option Addr) (c m : Nat) (all : List Rc), all.length = m → m ≤ 3518437208882 → (∀ r ∈ all, okR r) → Rs w 0 w.heap.size A all →
 ∀ (A' : Option Addr) (c' n : Nat) (p : List Int), p.length = n → okP p → p.length + k = 2 → Ns .i64 w w.heap.size A' p → Calls Tryz.prog 54 #[.slice A m c, .slice A' n c'] w (fun e w' => e = .returned (.int .u64 (hF k all p)) ∧ Below w.heap.size w w')
def RTextC (k : Nat) : Prop := ∀ (w : World) (A : Option Addr) (c m : Nat) (all : List Rc), all.length = m → m ≤ 3518437208882 → (∀ r ∈ all, okR r) → Rs w 0 w.heap.size A all →
 ∀ (A' : Option Addr) (c' n : Nat) (p : List Int), p.length = n → okP p → p.length + k = 2 → Ns .i64 w w.heap.size A' p → Calls Tryz.prog 79 #[.slice A m c, .slice A' n c'] w (OwnB w.heap.size (textF k all p) w)

set_option maxRecDepth 100000 in
set_option maxHeartbeats 2000000 in
theorem rtext_zero : RTextC 0 := by
 intro w A c m all hm hm2 hok hv A' c' n p hn hp hk hr
 obtain rfl : n = 2 := by omega
 have hR := ref_recs_any A A' c c' 2 m all p hm hm2 hn (by omega) w hv hr hp
 rw [show recsF all p = beneath all p by unfold recsF; rw [if_pos hp]] at hR
 have HR := Lib.hid hR
 have hx : textF 0 all p = leafT (beneath all p) := rfl
 have hlen := beneath_len all p
 have HOK : Hid (∀ r ∈ beneath all p, okR r) := Lib.hid fun r hr => hok r (beneath_mem.1 hr).1
 obtain ⟨R, hRR⟩ : ∃ R, beneath all p = R := ⟨_, rfl⟩
 rw [hRR] at hx hlen HR HOK
 rw [hx]
 clear hR hx hRR hn hp hr hk hv hok
 go_enter Tryz.func79, Tryz.ntmps79
 go_wp2_with fail
 refine HR.out.mono ?_
 rintro e w2 ⟨A2, m2, c2, ps, rfl, h2, b2⟩
 have hm3 : m2 ≤ 3518437208882 := by have := h2.out.2.1; omega
 have hrs := h2.out.2.2.2.rs b2.size
 rw [h2.out.1] at hrs
 have HB2 := Lib.hid (And.intro b2 (And.intro h2.out.2.1 hrs))
 have HI : Hid (Written (leafK R) m2 w2.heap.size w2 (.slice none 0 0) (.int .i64 0) w2) := Lib.hid ⟨0, 0, none, 0, rfl, by omega, rfl, by omega, Lib.hid ⟨by simp [leafT, leafK], World.ownsRow_nil _ _ _ _, Below.refl _ _⟩⟩
 clear h2 b2 HR hrs
 go_wp2_with fail
 go_loopw [5, 7] (fun v q wr => Written (leafK R) m2 w2.heap.size w2 v q wr) (fun _ q _ => m2 - (intOf q).toNat)
 case atStart => exact HI.out
 case round =>
  clear HI
  obtain ⟨i, n, A3, c3, rfl, hi, rfl, hn10, hst⟩ := hrel
  by_cases hlt : i < m2
  ·have d1 : (0 : Int) ≤ (i : Int) := by omega
   have d2 : (i : Int) < (m2 : Int) := by omega
   have hRl : R.length = m2 := HB2.out.2.1
   obtain ⟨pb, off, A4, c4, rfl, _, hbB, k0, k1, k2, k3⟩ := HB2.out.2.2.at hRl hst.out.2.2 hlt rfl
   have hRi : i < R.length := by omega
   have hmem : R.getD i r0 ∈ R := by
    rw [List.getD_eq_getElem?_getD, List.getElem?_eq_getElem hRi]
    exact List.getElem_mem _
   have hok := HOK.out _ hmem
   have HTk : Hid (R.take (i + 1) = R.take i ++ [R.getD i r0]) := Lib.hid (by
    rw [List.take_succ_eq_append_getElem hRi]
    simp [List.getD_eq_getElem?_getD, hRi])
   obtain ⟨r, hrr⟩ : ∃ r, R.getD i r0 = r := ⟨_, rfl⟩
   rw [hrr] at k0 k1 k2 k3 hok HTk
   obtain ⟨key, lv⟩ := r
   simp only at k0 k1 k2 k3
   obtain ⟨ml, hml⟩ : ∃ ml, lv.length = ml := ⟨_, rfl⟩
   rw [hml] at k1 k3
   have hsz := hst.out.2.2.size
   have hvs : Vs wr.drew 0 wr.drew.heap.size A4 lv := k2.more hsz
   have hM := ref_mark_any key A4 c4 ml lv hml hok.2.1 hok.2.2 wr.drew hvs
   have hU : U (markF (key, lv)) := hash_range _
   obtain ⟨x, hx⟩ : ∃ x, markF (key, lv) = x := ⟨_, rfl⟩
   rw [hx] at hM hU
   have hl10 := halves_len10 hU
   have HP : Hid (Calls Tryz.prog 97 #[.string key, .slice A4 ml c4] wr.drew fun e w3 => e = .returned (.int .u64 x) ∧ w3.cell? ⟨pb, off + i * 2, none⟩ = some (.string key) ∧ w3.cell? ⟨pb, off + i * 2 + 1, none⟩ = some (.slice A4 ml c4) ∧ Hid (Calls Tryz.prog 96 #[.slice A3 n c3, .int .u64 x] w3 fun e w4 => ∃ A5 n5 c5, e = .returned (.slice A5 n5 c5) ∧ w4.cell? ⟨pb, off + i * 2, none⟩ = some (.string key) ∧ w4.cell? ⟨pb, off + i * 2 + 1, none⟩ = some (.slice A4 ml c4) ∧ Hid (Written (leafK R) m2 w2.heap.size w2 (.slice A5 n5 c5) (.int .i64 ((i : Int) + 1)) w4))) := Lib.hid (by
    refine hM.mono ?_
    rintro e w3 ⟨he, b3⟩
    have b3' : Below wr.heap.size wr w3 := (show Below wr.heap.size wr wr.drew from (Below.refl _ _).drew).trans b3
    have o3 := own_below hst.out.2.1 b3' (Nat.le_refl _)
    have s3 := b3'.size
    have hHv := halves_any A3 c3 n (leafK R i) hst.out.1 (by omega) x hU w2.heap.size w3 (by omega) o3
    refine ⟨he, (World.cell?_of_block (b3'.block pb (by omega))).trans k0, (World.cell?_of_block (b3'.block pb (by omega))).trans k1, Lib.hid (hHv.mono ?_)⟩
    rintro e2 w4 ⟨A5, c5, he2, o5, b5⟩
    have hLK : leafK R (i + 1) = leafK R i ++ halves x := by unfold leafK; rw [HTk.out]; simp only [leafT, List.flatMap_append, List.flatMap_cons, List.flatMap_nil, List.append_nil, hx]
    refine ⟨A5, _, c5, he2, (World.cell?_of_block (b5.block pb hbB)).trans ((World.cell?_of_block (b3'.block pb (by omega))).trans k0), (World.cell?_of_block (b5.block pb hbB)).trans ((World.cell?_of_block (b3'.block pb (by omega))).trans k1), Lib.hid ⟨i + 1, _, A5, c5, by go_num, by omega, rfl, by rw [List.length_append, hst.out.1]; omega, Lib.hid ⟨by rw [hLK], by rw [hLK]; exact o5.out, (hst.out.2.2.trans (b3'.mono hsz)).trans b5⟩⟩⟩)
   clear hst hvs hx k2 k3 hmem hok hml hU hM hrr hl10
   go_wp2_with fail
   go_region_held3 (fun V => V.cell? ⟨pb, off + i * 2, none⟩ = some (.string key) ∧ V.cell? ⟨pb, off + i * 2 + 1, none⟩ = some (.slice A4 ml c4))
    (first | exact ⟨k0, k1⟩ | (refine ⟨?_, ?_⟩ <;> assumption))
    (first
     | (go_at_call 97; refine HP.out.mono ?_; rintro e w3 ⟨rfl, q0, q1, HH⟩)
     | (go_at_call 96; refine HH.out.mono ?_; rintro e w4 ⟨A5, n5, c5, rfl, z0, z1, HF⟩))
   all_goals
    go_wp2_with fail
    go_roundw
    case rel => exact HF.out
    case measure => simp only [intOf]; omega
  ·have him : i = m2 := by omega
   subst him
   have hfull : R.take i = R := List.take_of_length_le (by have := HB2.out.2.1; omega)
   have hst' := hst.out
   unfold leafK at hst'
   simp only [hfull] at hst'
   have HF : Hid (OwnB w.heap.size (leafT R) w (.returned (.slice A3 n c3)) wr) := Lib.hid (by
    have h9 := hst'.2.1
    have h8 := hst'.1
    rw [← h8] at h9
    refine ⟨A3, c3, by rw [h8], Lib.hid (own_base h9 HB2.out.1.size), HB2.out.1.trans (hst'.2.2.mono HB2.out.1.size)⟩)
   clear hst hst' hfull
   go_wp2_with fail
   go_ret
   exact HF.out

set_option maxRecDepth 100000 in
set_option maxHeartbeats 2000000 in
theorem rtext_succ {k : Nat} (HK : RHashC k) : RTextC (k + 1) := by
 intro w A c m all hm hm2 hok hv A' c' n p hn hp hk hr
 have hn2 : n < 2 := by omega
 have e1 : ((n : Int) == 2) = false := by simp; omega
 have hR := ref_recs_any A A' c c' n m all p hm hm2 hn (by omega) w hv hr hp
 rw [show recsF all p = beneath all p by unfold recsF; rw [if_pos hp]] at hR
 have HR := Lib.hid hR
 have hlen := beneath_len all p
 have HH : Hid (∀ (W : World) (A2 : Option Addr) (c2 m2 : Nat) (A3 : Option Addr) (c3 d : Nat), d < 16 → m2 = (beneath all p).length → Rs W 0 W.heap.size A2 (beneath all p) → Ns .i64 W W.heap.size A3 (p ++ [(d : Int)]) → Calls Tryz.prog 54 #[.slice A2 m2 c2, .slice A3 (n + 1) c3] W (fun e w' => e = .returned (.int .u64 (hF k all (p ++ [(d : Int)]))) ∧ Below W.heap.size W w')) := Lib.hid fun W A2 c2 m2 A3 c3 d hd hm3 hrs hns => by
  have hq := ok_longer hp (by omega) hd
  have h9 := HK W A2 c2 m2 (beneath all p) hm3.symm (by omega) (fun r hr => hok r (beneath_mem.1 hr).1) hrs A3 c3 (n + 1) (p ++ [(d : Int)]) (by simp [hn]) hq (by simp; omega) hns
  rwa [hF_beneath k all p (d : Int) hq (by omega)] at h9
 have hL := fun (W : World) (d : Nat) (hW : Ns .i64 W W.heap.size A' p) => ref_longer_any A' c' n p hn (by omega) (d : Int) W hW
 have HL := Lib.hid hL
 obtain ⟨h', hh'⟩ : ∃ h' : Nat → Int, (fun (d : Nat) => hF k all (p ++ [(d : Int)])) = h' := ⟨_, rfl⟩
 have HU : Hid (∀ d : Nat, U (h' d)) := Lib.hid fun d => by rw [← hh']; exact hF_range _ _ _
 have HV : Hid (∀ d : Nat, hF k all (p ++ [(d : Int)]) = h' d) := Lib.hid fun d => congrFun hh' d
 have hx : textF (k + 1) all p = kidsT h' 16 := by rw [← hh']; rfl
 rw [hx]
 have HN := Lib.hid (And.intro hr hn)
 obtain ⟨R, hRR⟩ : ∃ R, beneath all p = R := ⟨_, rfl⟩
 rw [hRR] at HR HH hlen
 clear hR hx hRR hn hp hr hk hv hok hL hh' HK
 go_enter Tryz.func79, Tryz.ntmps79
 go_wp2_with fail
 refine HR.out.mono ?_
 rintro e w2 ⟨A2, m2, c2, ps, rfl, h2, b2⟩
 have hrs := h2.out.2.2.2.rs b2.size
 rw [h2.out.1] at hrs
 have HB2 := Lib.hid (And.intro b2 (And.intro h2.out.2.1 hrs))
 have HI : Hid (Written (kidsT h') 16 w2.heap.size w2 (.slice none 0 0) (.int .i64 0) w2) := Lib.hid ⟨0, 0, none, 0, rfl, by omega, rfl, by omega, Lib.hid ⟨rfl, World.ownsRow_nil _ _ _ _, Below.refl _ _⟩⟩
 clear h2 b2 HR hrs
 go_wp2_with fail
 go_loopw [5, 8] (fun v q wr => Written (kidsT h') 16 w2.heap.size w2 v q wr) (fun _ q _ => 16 - (intOf q).toNat)
 case atStart => exact HI.out
 case round =>
  clear HI
  obtain ⟨i, n', A3, c3, rfl, hi, rfl, hn10, hst⟩ := hrel
  by_cases hlt : i < 16
  ·have d1 : (0 : Int) ≤ (i : Int) := by omega
   have d2 : (i : Int) < 16 := by omega
   have hb := hst.out.2.2
   have hbw := HB2.out.1.trans (hb.mono HB2.out.1.size)
   have hsz := hb.size
   have hK := Lib.hid (HL.out wr i ((HN.out.1.below hbw).more hbw.size))
   have HO := Lib.hid hst.out
   clear hst hb hbw
   go_wp2_with fail
   refine hK.out.mono ?_
   rintro e w3 ⟨A4, c4, rfl, o4, b4⟩
   have s4 := b4.size
   have hns : Ns .i64 w3 w3.heap.size A4 (p ++ [(i : Int)]) := by
    have h := o4.out
    rw [show n + 1 = (p ++ [(i : Int)]).length by simp [HN.out.2]] at h
    exact own_ns h
   have hbb := HO.out.2.2.trans (b4.mono hsz)
   have hH := HH.out w3 A2 c2 m2 A4 c4 i hlt HB2.out.2.1.symm ((HB2.out.2.2.below hbb).more hbb.size) hns
   rw [HV.out i] at hH
   have hH' := Lib.hid hH
   have ho4 := own_below HO.out.2.1 b4 (Nat.le_refl _)
   have HO4 := Lib.hid (And.intro ho4 (And.intro hbb b4))
   clear o4 b4 hns hH hbb ho4 hK
   go_wp2_with fail
   refine hH'.out.mono ?_
   rintro e w5 ⟨rfl, b5⟩
   have o5 := own_below HO4.out.1 b5 (Nat.le_refl _)
   have s5 := b5.size
   obtain ⟨x, hx⟩ : ∃ x, h' i = x := ⟨_, rfl⟩
   have hU : U x := by rw [← hx]; exact HU.out i
   rw [hx]
   have hl10 := halves_len10 hU
   have hP := Lib.hid (halves_any A3 c3 n' (kidsT h' i) HO.out.1 (by omega) x hU w2.heap.size w5 (by omega) o5)
   have HX := Lib.hid hx
   have HB5 := Lib.hid (HO4.out.2.1.trans (b5.mono (by omega)))
   clear o5 b5 hU hx hH'
   go_wp2_with fail
   refine hP.out.mono ?_
   rintro e w6 ⟨A5, c5, rfl, o6, b6⟩
   have HF : Hid (Written (kidsT h') 16 w2.heap.size w2 (.slice A5 (kidsT h' i ++ halves x).length c5) (.int .i64 ((i : Int) + 1)) w6) := Lib.hid ⟨i + 1, _, A5, c5, by go_num, by omega, rfl, by rw [List.length_append, HO.out.1]; omega, Lib.hid ⟨by
     rw [kidsT_succ, HX.out], by
     have h := o6.out
     rw [kidsT_succ, HX.out]
     exact h, HB5.out.trans b6⟩⟩
   obtain ⟨n5, hn5⟩ : ∃ n5, (kidsT h' i ++ halves x).length = n5 := ⟨_, rfl⟩
   rw [hn5] at HF ⊢
   clear o6 b6 hP hn5 hl10
   go_wp2_with fail
   go_roundw
   case rel => exact HF.out
   case measure => simp only [intOf]; omega
  ·have him : i = 16 := by omega
   subst him
   have HF : Hid (OwnB w.heap.size (kidsT h' 16) w (.returned (.slice A3 n' c3)) wr) := Lib.hid (by
    have h9 := hst.out.2.1
    have h8 := hst.out.1
    rw [← h8] at h9
    refine ⟨A3, c3, by rw [h8], Lib.hid (own_base h9 HB2.out.1.size), HB2.out.1.trans (hst.out.2.2.mono HB2.out.1.size)⟩)
   clear hst
   go_wp2_with fail
   go_ret
   exact HF.out

set_option maxRecDepth 100000 in
set_option maxHeartbeats 2000000 in
theorem rhash_text {k : Nat} (HT : RTextC k) : RHashC k := by
 intro w A c m all hm hm2 hok hv A' c' n p hn hp hk hr
 have hPa := path_any A' c' n p hn (by omega) w hr
 rw [decide_eq_true hp] at hPa
 have HPa := Lib.hid hPa
 have hR := ref_recs_any A A' c c' n m all p hm hm2 hn (by omega) w hv hr hp
 rw [show recsF all p = beneath all p by unfold recsF; rw [if_pos hp]] at hR
 have HR := Lib.hid hR
 have HTT : Hid (∀ W, Below w.heap.size w W → Calls Tryz.prog 79 #[.slice A m c, .slice A' n c'] W (OwnB W.heap.size (textF k all p) W)) := Lib.hid fun W hW => HT W A c m all hm hm2 hok ((hv.below hW).more hW.size) A' c' n p hn hp hk ((hr.below hW).more hW.size)
 have hx := hF_text k all p
 have hlen := beneath_len all p
 have HBY : Hid ((∀ z ∈ textF k all p, 0 ≤ z ∧ z ≤ 255) ∧ (textF k all p).length ≤ 140737488355328) := Lib.hid (by
  cases k with
  | zero => exact ⟨leafT_bytes _, by have := leafT_len (beneath all p); show (leafT (beneath all p)).length ≤ _; omega⟩
  | succ k => exact ⟨kidsT_bytes _ 16 fun d => hF_range _ _ _, by have := kidsT_len (fun (d : Nat) => hF k all (p ++ [(d : Int)])) 16 fun d => hF_range _ _ _; show (kidsT _ 16).length ≤ _; omega⟩)
 obtain ⟨T, hTT⟩ : ∃ T, textF k all p = T := ⟨_, rfl⟩
 rw [hTT] at hx HTT HBY
 rw [hx]
 obtain ⟨R, hRR⟩ : ∃ R, beneath all p = R := ⟨_, rfl⟩
 rw [hRR] at HR ⊢
 obtain ⟨V, hV⟩ : ∃ V, (if R = [] then 0 else hashL T) = V := ⟨_, rfl⟩
 rw [hV]
 have HVV := Lib.hid hV
 clear hPa hR hx hlen hTT hRR hn hp hk hr hv hok hm HT hV
 go_enter Tryz.func54, Tryz.ntmps54
 go_wp2_with fail
 refine HPa.out.mono ?_
 rintro e w1 ⟨rfl, rfl⟩
 go_wp2_with fail
 refine HR.out.mono ?_
 rintro e w2 ⟨A2, m2, c2, ps, rfl, h2, b2⟩
 have HM := Lib.hid h2.out.2.1
 have HB2 := Lib.hid b2
 clear h2 b2 HR HPa
 by_cases hm0 : m2 = 0
 ·have e1 : ((m2 : Int) == 0) = true := by rw [hm0]; rfl
  have HR0 : Hid (R = []) := Lib.hid (List.eq_nil_of_length_eq_zero (by rw [HM.out, hm0]))
  clear hm0
  go_wp2_with fail
  go_ret
  exact ⟨by rw [← HVV.out, if_pos HR0.out]; rfl, HB2.out⟩
 ·have e1 : ((m2 : Int) == 0) = false := by simp; omega
  have HR0 : Hid (R ≠ []) := Lib.hid fun h => by have := HM.out; rw [h] at this; simp at this; omega
  clear hm0
  go_wp2_with fail
  refine (HTT.out w2 HB2.out).mono ?_
  rintro e w3 ⟨A5, c5, rfl, o5, b5⟩
  have hs5 := b5
  have hK := Lib.hid (ref_hash_any A5 c5 T.length T rfl HBY.out.1 w3 (own_ns o5.out) HBY.out.2)
  have HB5 := Lib.hid (HB2.out.trans (b5.mono HB2.out.size))
  obtain ⟨n5, hn5⟩ : ∃ n5, T.length = n5 := ⟨_, rfl⟩
  rw [hn5] at hK ⊢
  clear o5 b5 hs5 hn5
  go_wp2_with fail
  refine hK.out.mono ?_
  rintro e w4 ⟨rfl, rfl⟩
  go_wp2_with fail
  go_ret
  exact ⟨by rw [← HVV.out, if_neg HR0.out]; rfl, HB5.out⟩
theorem rhash_all : ∀ k, RHashC k
 | 0 => rhash_text rtext_zero
 | k + 1 => rhash_text (rtext_succ (rhash_all k))

set_option maxRecDepth 100000 in
theorem ref_hash_tell (w : World) (A : Option Addr) (c m : Nat) (all : List Rc) (hm : all.length = m) (hm2 : m ≤ 3518437208882) (hok : ∀ r ∈ all, okR r) (hv : Rs w 0 w.heap.size A all) (A' : Option Addr) (c' n : Nat) (p : List Int) (hn : p.length = n) (hbig : n ≤ 140737488355328) (hr : Ns .i64 w w.heap.size A' p) :
  Calls Tryz.prog 54 #[.slice A m c, .slice A' n c'] w (fun e w' => e = .returned (.int .u64 (hashF all p)) ∧ Below w.heap.size w w') := by
 by_cases hp : okP p
 ·have e : hashF all p = hF (2 - p.length) all p := by unfold hashF; rw [if_pos hp]
  rw [e]
  exact rhash_all (2 - p.length) w A c m all hm hm2 hok hv A' c' n p hn hp (by have := hp.2; omega) hr
 ·have e : hashF all p = 0 := by unfold hashF; rw [if_neg hp]
  rw [e]
  have hPa := path_any A' c' n p hn hbig w hr
  rw [decide_eq_false hp] at hPa
  have HPa := Lib.hid hPa
  clear hPa hp e hn hr hv hok hm
  go_enter Tryz.func54, Tryz.ntmps54
  go_wp2_with fail
  refine HPa.out.mono ?_
  rintro e w1 ⟨rfl, rfl⟩
  go_wp2_with fail
  go_ret
  exact ⟨rfl, Below.refl _ _⟩
end Tree
end Go.Proofs.YtkfdplfgaddkmaaGreat

/-
 The document's lists of hashes; records, whatever the path.
-/
namespace Go.Proofs.YtkfdplfgaddkmaaGreat
namespace Tree
open Go.RowKit Vers Num Ring Disk Blk
open Go.Proofs.YtkfdplfgaddkmaaGreat.Code hiding Bn
attribute [local go_sem ↓] Go.wp_at_zero Go.wp_at_succ

theorem ref_recs_tell (A A' : Option Addr) (c c' n m : Nat) (all : List Rc) (p : List Int) (hm : all.length = m) (hm2 : m ≤ 3518437208882) (hn : p.length = n) (hbig : n ≤ 140737488355328) (w : World) (hv : Rs w 0 w.heap.size A all) (hr : Ns .i64 w w.heap.size A' p) :
  Calls Tryz.prog 53 #[.slice A m c, .slice A' n c'] w (NewS (recsF all p) w) := by
 by_cases hp : okP p
 ·exact ref_recs_any A A' c c' n m all p hm hm2 hn hbig w hv hr hp
 ·exact ref_recs_no A A' c c' n m all p hm hm2 hn hbig w hr hp
theorem info_u64' : (Tryz.prog.info? 78).map (fun i => (i.zero, i.size, i.bytes)) = some (some (.int .u64 0), 1, 8) := by kernel_rfl
def NewH (zs : List Int) (w : World) (e : Ending) (w' : World) : Prop := ∃ A m c, e = .returned (.slice A m c) ∧ Hid (zs.length = m ∧ m ≤ c ∧ w'.ownsRow w.heap.size 78 1 (.slice A m c) m (nums .u64 zs)) ∧ Below w.heap.size w w'
set_option maxRecDepth 100000 in
set_option maxHeartbeats 2000000 in
theorem ref_kids_tell (w : World) (A : Option Addr) (c m : Nat) (all : List Rc) (hm : all.length = m) (hm2 : m ≤ 3518437208882) (hok : ∀ r ∈ all, okR r) (hv : Rs w 0 w.heap.size A all) (A' : Option Addr) (c' n : Nat) (p : List Int) (hn : p.length = n) (hbig : n ≤ 140737488355328) (hr : Ns .i64 w w.heap.size A' p) :
  Calls Tryz.prog 20 #[.slice A m c, .slice A' n c'] w (NewH (kidsF all p) w) := by
 obtain ⟨i0, hi, hz0, hz1, hz2⟩ := info_parts info_u64'
 have HPa : Hid (∀ W, Below w.heap.size w W → Calls Tryz.prog 52 #[.slice A' n c'] W (fun e w' => e = .returned (.bool (decide (okP p))) ∧ W = w')) := Lib.hid fun W hW => path_any A' c' n p hn hbig W ((hr.below hW).more hW.size)
 by_cases hp : okP p ∧ p.length < 2
 ·have hn2 : (n : Int) < 2 := by omega
  have e2 : n < 2 := by omega
  have hkf : kidsF all p = (List.range 16).map fun (d : Nat) => hashF all (p ++ [(d : Int)]) := by unfold kidsF; rw [if_pos hp]
  obtain ⟨h', hh'⟩ : ∃ h' : Nat → Int, (fun (d : Nat) => hashF all (p ++ [(d : Int)])) = h' := ⟨_, rfl⟩
  rw [hkf, hh', ← kr_full h']
  rw [decide_eq_true hp.1] at HPa
  have HL := Lib.hid (fun (W : World) (d : Nat) (hW : Ns .i64 W W.heap.size A' p) => ref_longer_any A' c' n p hn (by omega) (d : Int) W hW)
  have HH : Hid (∀ (W : World) (A3 : Option Addr) (c3 d : Nat), Below w.heap.size w W → Ns .i64 W W.heap.size A3 (p ++ [(d : Int)]) → Calls Tryz.prog 54 #[.slice A m c, .slice A3 (n + 1) c3] W (fun e w' => e = .returned (.int .u64 (h' d)) ∧ Below W.heap.size W w')) := Lib.hid fun W A3 c3 d hW hns => by
   rw [← congrFun hh' d]
   exact ref_hash_tell W A c m all hm hm2 hok ((hv.below hW).more hW.size) A3 c3 (n + 1) (p ++ [(d : Int)]) (by simp [hn]) (by omega) hns
  have HN := Lib.hid (And.intro hr hn)
  have hzz : ∀ k, k ≤ 16 → ((List.range k).map h').length = k := fun k _ => by simp
  have HZZ := Lib.hid hzz
  clear hkf hh' hr hn hp hv hok hm hzz
  go_enter Tryz.func20, Tryz.ntmps20
  go_wp2_with fail
  go_loopw [5, 6] (fun v q wr => ∃ (k : Nat) (A1 : Option Addr) (c1 : Nat), q = .int .i64 k ∧ k ≤ 16 ∧ v = .slice A1 k c1 ∧ Hid (wr.ownsRow w.heap.size 78 1 (.slice A1 k c1) k (nums .u64 ((List.range k).map h')) ∧ Below w.heap.size w wr)) (fun _ q _ => 16 - (intOf q).toNat)
  case atStart => exact ⟨0, none, 0, rfl, by omega, rfl, Lib.hid ⟨World.ownsRow_nil _ _ _ _, Below.refl _ _⟩⟩
  case round =>
   obtain ⟨k, A1, c1, rfl, hk, rfl, hst⟩ := hrel
   have hb := hst.out.2
   have hP := Lib.hid (HPa.out wr hb)
   have hsz := hb.size
   have HST := Lib.hid hst.out
   by_cases hlt : k < 16
   ·have d1 : (0 : Int) ≤ (k : Int) := by omega
    have d2 : (k : Int) < 16 := by omega
    have hK := Lib.hid (HL.out wr k ((HN.out.1.below hb).more hb.size))
    clear hst hb
    go_wp2_with fail
    refine hP.out.mono ?_
    rintro e w1 ⟨rfl, rfl⟩
    go_wp2_with fail
    refine hK.out.mono ?_
    rintro e w3 ⟨A4, c4, rfl, o4, b4⟩
    have s4 := b4.size
    have hns : Ns .i64 w3 w3.heap.size A4 (p ++ [(k : Int)]) := by
     have h := o4.out
     rw [show n + 1 = (p ++ [(k : Int)]).length by simp [HN.out.2]] at h
     exact own_ns h
    have hbb := HST.out.2.trans (b4.mono hsz)
    have hH := Lib.hid (HH.out w3 A4 c4 k hbb hns)
    have HO4 := Lib.hid (And.intro (own_below HST.out.1 b4 (Nat.le_refl _)) (And.intro hbb b4))
    clear o4 b4 hns hbb hK hP
    go_wp2_with fail
    refine hH.out.mono ?_
    rintro e w5 ⟨rfl, b5⟩
    have o5 := own_below HO4.out.1 b5 (Nat.le_refl _)
    have s5 := b5.size
    have hs5 : w.heap.size ≤ w5.heap.size := by omega
    have HB5 := Lib.hid (HO4.out.2.1.trans (b5.mono (by omega)))
    obtain ⟨x, hx⟩ : ∃ x, h' k = x := ⟨_, rfl⟩
    rw [hx]
    have HX := Lib.hid hx
    clear b5 hx hH
    go_wp2_with (at_builtin; refine wpList_append_one _ rfl (.tmp 20) (.tmp 26) 33 rfl w.heap.size 78 i0 _ 8 Tryz.underlying33 hi hz0 hz1 hz2 rfl _ k (nums .u64 ((List.range k).map h')) rfl o5 (.int .u64 x) 1 rfl rfl (by omega) (by omega) hs5 ?_; intro v2 w6 o6 g6 at6; obtain ⟨A2, c2, rfl⟩ := own_form o6)
    have HF : Hid (w6.ownsRow w.heap.size 78 1 (.slice A2 (k + 1) c2) (k + 1) (nums .u64 ((List.range (k + 1)).map h')) ∧ Below w.heap.size w w6) := Lib.hid ⟨by
     rw [List.range_succ, List.map_append, show nums .u64 ((List.range k).map h' ++ [k].map h') = nums .u64 ((List.range k).map h') ++ [.int .u64 x] by simp [nums, HX.out]]
     exact o6, HB5.out.grown g6 hs5 (fun j hj => (o5.lt j hj).1)⟩
    clear o6 g6 at6 o5
    go_roundw
    case rel => exact ⟨k + 1, A2, c2, by go_num, by omega, rfl, HF⟩
    case measure => simp only [intOf]; omega
   ·have hk16 : k = 16 := by omega
    subst hk16
    have HF : Hid (NewH (kr h' 16) w (.returned (.slice A1 16 c1)) wr) := Lib.hid ⟨A1, 16, c1, rfl, Lib.hid ⟨by rw [kr_full]; simp, (own_low HST.out.1).1, by rw [kr_full]; exact HST.out.1⟩, HST.out.2⟩
    clear hst hb hP
    go_wp2_with fail
    go_ret
    exact HF.out
 ·have hkf : kidsF all p = [] := by unfold kidsF; rw [if_neg hp]
  rw [hkf]
  have HF : Hid (NewH [] w (.returned (.slice none 0 0)) w) := Lib.hid ⟨none, 0, 0, rfl, Lib.hid ⟨rfl, Nat.le_refl _, World.ownsRow_nil _ _ _ _⟩, Below.refl _ _⟩
  have hPP := HPa.out w (Below.refl _ _)
  by_cases hq : okP p
  ·rw [decide_eq_true hq] at hPP
   have HPP := Lib.hid hPP
   have e2 : ¬ (n : Int) < 2 := fun h => hp ⟨hq, by omega⟩
   have e3 : ¬ n < 2 := by omega
   clear hPP hq hp hkf hn hr hv hok hm
   go_enter Tryz.func20, Tryz.ntmps20
   go_wp2_with fail
   refine wp_loop_rounds 1 ?_
   rw [rounds_succ]
   go_wp2_with fail
   refine HPP.out.mono ?_
   rintro e w1 ⟨rfl, rfl⟩
   go_wp2_with fail
   go_ret
   exact HF.out
  ·rw [decide_eq_false hq] at hPP
   have HPP := Lib.hid hPP
   clear hPP hq hp hkf hn hr hv hok hm
   go_enter Tryz.func20, Tryz.ntmps20
   go_wp2_with fail
   refine wp_loop_rounds 1 ?_
   rw [rounds_succ]
   go_wp2_with fail
   refine HPP.out.mono ?_
   rintro e w1 ⟨rfl, rfl⟩
   go_wp2_with fail
   go_ret
   exact HF.out
end Tree
end Go.Proofs.YtkfdplfgaddkmaaGreat

/-
 The document's Recs, told where the versions lie (layer 14).
-/
namespace Go.Proofs.YtkfdplfgaddkmaaGreat
namespace Tree
open Go.RowKit Vers Num Ring Disk Blk
open Go.Proofs.YtkfdplfgaddkmaaGreat.Code hiding Bn
attribute [local go_sem ↓] Go.wp_at_zero Go.wp_at_succ
end Tree
end Go.Proofs.YtkfdplfgaddkmaaGreat
