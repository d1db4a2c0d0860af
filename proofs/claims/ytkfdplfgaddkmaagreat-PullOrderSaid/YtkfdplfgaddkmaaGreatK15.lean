/-
  Several texts of this family in one: TreeNew, TreeTell, TreeLaw, TreeDocHash, TreeDocKids, MendGiveRef, MendStep, MendDiffer, MendAns, MendRecsRef, MendTakeRef, MendLaid, MendPlainLaw, MendWritten, MendAwakePlain, IntsOwn, MendMap, MendGive, MendOpen.
-/
import Derived.Test.YtkfdplfgaddkmaaGreatK14
import Derived.Test.YtkfdplfgaddkmaaGreatK12
import Derived.Test.YtkfdplfgaddkmaaGreatK13
import Derived.Deep.RegionHeld3
import Derived.Deep.DrawnRows
import Derived.Test.YtkfdplfgaddkmaaGreatK11
import Derived.Test.YtkfdplfgaddkmaaGreatK10
import Derived.Test.YtkfdplfgaddkmaaGreatK3
/-
 A new tree; trees made of lists.
-/
namespace Go.Proofs.YtkfdplfgaddkmaaGreat
namespace Tree
open Go.RowKit Vers Num Ring Disk Blk
open Go.Proofs.YtkfdplfgaddkmaaGreat.Code hiding Bn
attribute [local go_sem ↓] Go.wp_at_zero Go.wp_at_succ

def z4 : Nat → List Value
 | 0 => []
 | n + 1 => .int .u32 0 :: .int .i32 0 :: .int .u32 0 :: .int .u64 0 :: z4 n
theorem z4_at : ∀ (n s : Nat), s < n → (z4 n)[4 * s]? = some (.int .u32 0) ∧ (z4 n)[4 * s + 1]? = some (.int .i32 0) ∧ (z4 n)[4 * s + 2]? = some (.int .u32 0) ∧ (z4 n)[4 * s + 3]? = some (.int .u64 0)
 | n + 1, 0, _ => ⟨rfl, rfl, rfl, rfl⟩
 | n + 1, s + 1, h => by
  have ih := z4_at n s (by omega)
  unfold z4
  rw [show 4 * (s + 1) = 4 * s + 1 + 1 + 1 + 1 by omega, show 4 * s + 1 + 1 + 1 + 1 + 1 = 4 * s + 1 + 1 + 1 + 1 + 1 from rfl]
  refine ⟨?_, ?_, ?_, ?_⟩
  ·simp only [List.getElem?_cons_succ]; exact ih.1
  ·rw [show 4 * s + 1 + 1 + 1 + 1 + 1 = (4 * s + 1) + 1 + 1 + 1 + 1 by omega]; simp only [List.getElem?_cons_succ]; exact ih.2.1
  ·rw [show 4 * s + 1 + 1 + 1 + 1 + 2 = (4 * s + 2) + 1 + 1 + 1 + 1 by omega]; simp only [List.getElem?_cons_succ]; exact ih.2.2.1
  ·rw [show 4 * s + 1 + 1 + 1 + 1 + 3 = (4 * s + 3) + 1 + 1 + 1 + 1 by omega]; simp only [List.getElem?_cons_succ]; exact ih.2.2.2
theorem z4_len : ∀ n, (z4 n).length = 4 * n
 | 0 => rfl
 | n + 1 => by simp only [z4, List.length_cons, z4_len n]; omega
def zt : List Value := List.replicate 256 (.map none) ++ z4 273
theorem rep_at (n i : Nat) (h : i < n) (v : Value) (B : List Value) : (List.replicate n v ++ B)[i]? = some v := by
 rw [List.getElem?_append_left (by rw [List.length_replicate]; exact h), List.getElem?_replicate_of_lt h]
theorem app_at (n j : Nat) (v : Value) (B : List Value) : (List.replicate n v ++ B)[n + j]? = B[j]? := by
 rw [List.getElem?_append_right (by rw [List.length_replicate]; omega), List.length_replicate, Nat.add_sub_cancel_left]
theorem cells_zero : Cells zt (fun _ => none) [] fun _ => False := by
 refine ⟨?_, fun i hi => rep_at 256 i hi _ _, fun p hp => ?_⟩
 ·unfold zt
  rw [List.length_append, List.length_replicate, z4_len]
 ·have hs := z4_at 273 (spotN p) (spot_lt hp)
  have e : ∀ r, zt[256 + 4 * spotN p + r]? = (z4 273)[4 * spotN p + r]? := fun r => by
   rw [Nat.add_assoc]
   exact app_at 256 _ _ _
  exact ⟨0, 0, 0, (e 0).trans hs.1, (e 1).trans hs.2.1, (e 2).trans hs.2.2.1, (e 3).trans hs.2.2.2, fun h => h.elim, fun _ => ⟨rfl, .inl rfl⟩⟩
theorem zc_eq : Tryz.zeroCells139 = zt.toArray := by kernel_rfl
theorem tr_new (w : World) : TR (fun k => k = w.heap.size) (w.alloc (.cells Tryz.zeroCells139 139)) w.heap.size (fun _ => none) (fun _ => (none, 0)) [] fun _ => False :=
 ⟨⟨zt, (by rw [zc_eq]; exact World.alloc_heap_new _ _), cells_zero⟩, fun _ _ => ⟨fun _ => rfl, (fun mb h => by cases h)⟩, (fun _ _ k _ _ h => by cases h), (fun r hr => by cases hr), ⟨Srt.nil, (fun r hr => by cases hr)⟩, rfl, (fun k hk => by rw [hk, World.size_alloc]; omega)⟩
def layF (l : List Rc) : List Rc := l.foldl withR []
theorem layF_snoc (l : List Rc) (r : Rc) : layF (l ++ [r]) = withR (layF l) r := by simp [layF]
theorem fold_len (l : List Rc) : ∀ acc : List Rc, (l.foldl withR acc).length ≤ acc.length + l.length := by
 induction l with
 | nil => intro acc; simp
 | cons r l ih =>
  intro acc
  have h1 := ih (withR acc r)
  have h2 := with_len acc r
  simp only [List.foldl_cons, List.length_cons]
  omega
theorem layF_len (l : List Rc) : (layF l).length ≤ l.length := by
 have h := fold_len l []
 unfold layF
 simpa using h
def NewT (l : List Rc) (w : World) (e : Ending) (w' : World) : Prop :=
 ((∀ r ∈ l, okR r) ∧ ∃ F tb mv f, e = .returned (.tuple #[hd tb, .int .i64 0]) ∧ Hid (TR F w' tb mv f (layF l) (fun _ => False) ∧ (∀ k, F k → w.heap.size ≤ k) ∧ Below w.heap.size w w')) ∨
 ((¬ ∀ r ∈ l, okR r) ∧ e = .returned (.tuple #[.pointer none, .int .i64 1]) ∧ Below w.heap.size w w')
set_option maxRecDepth 100000 in
set_option maxHeartbeats 2000000 in
theorem new_any (A : Option Addr) (c n : Nat) (l : List Rc) (hn : l.length = n) (hbig : n ≤ 3518437208882) (w : World) (hr : Rs w 0 w.heap.size A l) :
  Calls Tryz.prog 45 #[.slice A n c] w (NewT l w) := by
 obtain ⟨tb, htb⟩ : ∃ tb, w.heap.size = tb := ⟨_, rfl⟩
 have HI : Hid (∀ V, V = w.alloc (.cells Tryz.zeroCells139 139) → ∃ (F : Nat → Prop) (mv : Nat → Option Nat) (f : Fp), (∀ r ∈ l.take 0, okR r) ∧ TR F V tb mv f (layF (l.take 0)) (fun _ => False) ∧ (∀ k, F k → w.heap.size ≤ k) ∧ Below w.heap.size w V) := Lib.hid fun V hV => ⟨fun k => k = w.heap.size, fun _ => none, fun _ => (none, 0), by simp, by rw [hV, ← htb]; exact tr_new w, (fun k hk => by rw [hk]; exact Nat.le_refl _), by rw [hV]; exact (Below.refl _ _).alloc (Nat.le_refl _) _⟩
 have HP := Lib.hid (And.intro hr (And.intro hn htb))
 clear hr hn
 go_enter Tryz.func45, Tryz.ntmps45
 go_wp2_with fail
 obtain ⟨V, hV⟩ : ∃ V, w.alloc (.cells Tryz.zeroCells139 139) = V := ⟨_, rfl⟩
 have HI2 := Lib.hid (HI.out V hV.symm)
 rw [hV]
 clear hV htb HI
 go_loopw [12] (fun q wr => ∃ k : Nat, q = .int .i64 k ∧ k ≤ n ∧ Hid (∃ (F : Nat → Prop) (mv : Nat → Option Nat) (f : Fp), (∀ r ∈ l.take k, okR r) ∧ TR F wr tb mv f (layF (l.take k)) (fun _ => False) ∧ (∀ k, F k → w.heap.size ≤ k) ∧ Below w.heap.size w wr)) (fun q _ => n - (intOf q).toNat)
 case atStart => exact ⟨0, rfl, by omega, HI2⟩
 case round =>
  clear HI2
  obtain ⟨k, rfl, hk, hst⟩ := hrel
  obtain ⟨F, mv, f, hok, hT, hF, hb⟩ := hst.out
  by_cases hlt : k < n
  ·have d1 : (0 : Int) ≤ (k : Int) := by omega
   have d2 : (k : Int) < (n : Int) := by omega
   obtain ⟨pb, off, A4, c4, rfl, _, hbB, k0, k1, k2, k3⟩ := HP.out.1.at HP.out.2.1 hb hlt rfl
   have hkl : k < l.length := by have := HP.out.2.1; omega
   have HTk : Hid (l.take (k + 1) = l.take k ++ [l.getD k r0]) := Lib.hid (by
    rw [List.take_succ_eq_append_getElem hkl]
    simp [List.getD_eq_getElem?_getD, hkl])
   have hmem : l.getD k r0 ∈ l := by
    rw [List.getD_eq_getElem?_getD, List.getElem?_eq_getElem hkl]
    exact List.getElem_mem _
   obtain ⟨r, hrr⟩ : ∃ r, l.getD k r0 = r := ⟨_, rfl⟩
   rw [hrr] at k0 k1 k2 k3 HTk hmem
   obtain ⟨key, lv⟩ := r
   simp only at k0 k1 k2 k3
   obtain ⟨ml, hml⟩ : ∃ ml, lv.length = ml := ⟨_, rfl⟩
   rw [hml] at k1 k3
   have hsz := hb.size
   obtain ⟨V2, hV2⟩ : ∃ V2, wr.alloc (.cells #[.string key, .slice A4 ml c4] 70) = V2 := ⟨_, rfl⟩
   have hbV : Below wr.heap.size wr V2 := by rw [← hV2]; exact (Below.refl _ _).alloc (Nat.le_refl _) _
   have hBV : Bn wr.heap.size 70 [.string key, .slice A4 ml c4] V2 := by rw [← hV2]; exact World.alloc_heap_new _ _
   have v0 := hBV.cell 0
   have v1 := hBV.cell 1
   simp only [List.getElem?_cons_zero, List.getElem?_cons_succ] at v0 v1
   have hTV := hT.below hbV
   have hvs : Vs V2 0 V2.heap.size A4 lv := ((k2.below (hbV.mono hsz)).more (Nat.le_trans hsz hbV.size)).less (Nat.zero_le _)
   have hlen : (layF (l.take k)).length ≤ 3518437208882 := by have := layF_len (l.take k); rw [List.length_take] at this; omega
   have bV : Below w.heap.size w V2 := hb.trans (hbV.mono hsz)
   by_cases hokr : okR (key, lv)
   ·have hS := Lib.hid (set_ok hTV hlen key A4 c4 ml lv hml hvs hokr)
    have HO := Lib.hid (And.intro hok (And.intro hF (And.intro bV hokr)))
    clear hst hok hT hF hb hTV hvs hbV hBV k2 hmem hrr hml hlen bV hokr
    unfold hd at hS
    go_wp2_with fail
    refine hS.out.mono ?_
    rintro e w3 ⟨F', mv', f', rfl, h3⟩
    have HF : Hid (∃ (F : Nat → Prop) (mv : Nat → Option Nat) (f : Fp), (∀ r ∈ l.take (k + 1), okR r) ∧ TR F w3 tb mv f (layF (l.take (k + 1))) (fun _ => False) ∧ (∀ k, F k → w.heap.size ≤ k) ∧ Below w.heap.size w w3) := Lib.hid (by
     have ho := h3.out.2.old HO.out.2.2.1 HO.out.2.1
     refine ⟨F', mv', f', fun r hr => ?_, by rw [HTk.out, layF_snoc]; exact h3.out.1, ho.2, ho.1⟩
     rw [HTk.out] at hr
     rcases List.mem_append.1 hr with hr | hr
     ·exact HO.out.1 r hr
     ·rw [List.mem_singleton.1 hr]; exact HO.out.2.2.2)
    clear h3 hS
    go_wp2_with fail
    go_roundw
    case rel => exact ⟨k + 1, by go_num, by omega, HF⟩
    case measure => simp only [intOf]; omega
   ·have hS := Lib.hid (set_bad hTV key A4 c4 ml lv hml (by omega) (by omega) hvs hokr)
    have HF : Hid (¬ ∀ r ∈ l, okR r) := Lib.hid fun h9 => hokr (h9 _ hmem)
    have HO := Lib.hid bV
    clear hst hok hT hF hb hTV hvs hbV hBV k2 hmem hrr hml hlen bV hokr
    unfold hd at hS
    go_wp2_with fail
    refine hS.out.mono ?_
    rintro e w3 ⟨rfl, b3⟩
    have HB3 := Lib.hid (HO.out.trans (b3.mono HO.out.size))
    clear b3 hS
    go_wp2_with fail
    go_ret2
    exact .inr ⟨HF.out, rfl, HB3.out⟩
  ·have hkn : k = n := by omega
   subst hkn
   have hfull : l.take k = l := List.take_of_length_le (by have := HP.out.2.1; omega)
   rw [hfull] at hok hT
   have HF : Hid (NewT l w (.returned (.tuple #[hd tb, .int .i64 0])) wr) := Lib.hid (.inl ⟨hok, F, tb, mv, f, rfl, Lib.hid ⟨hT, hF, hb⟩⟩)
   clear hst hok hT hF hb hfull
   unfold hd at HF
   go_wp2_with fail
   go_ret2
   exact HF.out
end Tree
end Go.Proofs.YtkfdplfgaddkmaaGreat

/-
 What a tree tells, whatever the path; where two lists of hashes differ.
-/
namespace Go.Proofs.YtkfdplfgaddkmaaGreat
namespace Tree
open Go.RowKit Vers Num Ring Disk Blk
open Go.Proofs.YtkfdplfgaddkmaaGreat.Code hiding Bn
attribute [local go_sem ↓] Go.wp_at_zero Go.wp_at_succ

section
variable {F : Nat → Prop} {w : World} {tb : Nat} {mv : Nat → Option Nat} {f : Fp} {all : List Rc}
set_option maxRecDepth 100000 in
set_option maxHeartbeats 2000000 in
theorem hash_tell (h : TR F w tb mv f all fun _ => False) (hN : all.length ≤ 3518437208882) (A : Option Addr) (c n : Nat) (p : List Int) (hn : p.length = n) (hbig : n ≤ 140737488355328) (hr : Ns .i64 w w.heap.size A p) :
  Calls Tryz.prog 74 #[hd tb, .slice A n c] w (Told F tb mv f all (fun _ => False) (hashF all p) w) := by
 by_cases hp : okP p
 ·have e : hashF all p = hF (2 - p.length) all p := by unfold hashF; rw [if_pos hp]
  rw [e]
  exact hash_all (2 - p.length) F w tb mv f all (fun _ => False) h hN A c n p hn hp (by have := hp.2; omega) hr fun _ _ _ q => q
 ·have e : hashF all p = 0 := by unfold hashF; rw [if_neg hp]
  rw [e]
  obtain ⟨U, hU⟩ : ∃ U, (w.alloc (.cells #[hd tb] 80)).alloc (.cells #[.slice A n c] 24) = U := ⟨_, rfl⟩
  have hbU : Below w.heap.size w U := by rw [← hU]; exact ((Below.refl _ _).alloc (Nat.le_refl _) _).alloc (by simp) _
  have B1 : Bn (w.heap.size + 1) 24 [.slice A n c] U := by
   have h := World.alloc_heap_new (w.alloc (.cells #[hd tb] 80)) (.cells #[.slice A n c] 24)
   rw [hU] at h
   show U.heap[w.heap.size + 1]? = _
   simpa using h
  have a1 := B1.cell 0
  simp only [List.getElem?_cons_zero] at a1
  have H1 := Lib.hid (isPath_any A c n p hn hbig U (h.ns (Chg.of_below hbU) hr))
  rw [decide_eq_false hp] at H1
  have HF : Hid (TR F U tb mv f all (fun _ => False) ∧ Chg (fun k => k = tb) w U) := Lib.hid ⟨h.below hbU, Chg.of_below hbU⟩
  clear hp e hn hr h hbU B1
  unfold hd at hU ⊢
  go_enter Tryz.func74, Tryz.ntmps74
  go_wp2_with fail
  refine H1.out.mono ?_
  rintro e w1 ⟨rfl, rfl⟩
  go_wp2_with fail
  go_ret
  exact ⟨rfl, HF⟩

def KidsQ (F : Nat → Prop) (tb : Nat) (mv : Nat → Option Nat) (f : Fp) (all : List Rc) (zs : List Int) (w : World) (e : Ending) (w' : World) : Prop :=
 ∃ A m c, e = .returned (.slice A m c) ∧ Hid (zs.length = m ∧ m ≤ c ∧ Ns .u64 w' w'.heap.size A zs ∧ (∀ a, 0 < m → A = some a → w.heap.size ≤ a.block) ∧ TR F w' tb mv f all (fun _ => False) ∧ Chg (fun k => k = tb) w w')
set_option maxRecDepth 100000 in
set_option maxHeartbeats 2000000 in
theorem kids_tell (h : TR F w tb mv f all fun _ => False) (hN : all.length ≤ 3518437208882) (A : Option Addr) (c n : Nat) (p : List Int) (hn : p.length = n) (hbig : n ≤ 140737488355328) (hr : Ns .i64 w w.heap.size A p) :
  Calls Tryz.prog 50 #[hd tb, .slice A n c] w (KidsQ F tb mv f all (kidsF all p) w) := by
 by_cases hp : okP p ∧ p.length < 2
 ·have e : kidsF all p = (List.range 16).map fun (d : Nat) => hF (1 - p.length) all (p ++ [(d : Int)]) := by
   unfold kidsF
   rw [if_pos hp]
   refine List.map_congr_left fun d hd => ?_
   unfold hashF
   rw [if_pos (ok_longer hp.1 hp.2 (List.mem_range.1 hd))]
   congr 1
   rw [List.length_append]
   simp only [List.length_cons, List.length_nil]
   omega
  rw [e]
  refine (kids_some (hash_all (1 - p.length)) h hN A c n p hn hp.1 (by have := hp.2; omega) hr fun _ _ _ _ q => q).mono ?_
  rintro e w' ⟨g, he, hh⟩
  refine ⟨some ⟨g, 0, none⟩, 16, 16, he, Lib.hid ⟨by simp, Nat.le_refl _, bn_ns hh.out.2.1, fun a _ ha => by injection ha with ha; rw [← ha]; exact hh.out.1, hh.out.2.2⟩⟩
 ·have e : kidsF all p = [] := by unfold kidsF; rw [if_neg hp]
  rw [e]
  have HF : Hid (KidsQ F tb mv f all [] w (.returned (.slice none 0 0)) w) := Lib.hid ⟨none, 0, 0, rfl, Lib.hid ⟨rfl, Nat.le_refl _, Ns.nil _, fun _ h _ => absurd h (by omega), h, Chg.refl _ _⟩⟩
  by_cases h2 : 2 ≤ n
  ·have e1 : decide ((2 : Int) ≤ (n : Int)) = true := decide_eq_true (by omega)
   clear hp e hn hr h h2
   unfold hd
   go_enter Tryz.func50, Tryz.ntmps50
   go_wp2_with fail
   go_ret
   exact HF.out
  ·have e1 : decide ((2 : Int) ≤ (n : Int)) = false := decide_eq_false (by omega)
   have H1 := Lib.hid (isPath_any A c n p hn hbig w hr)
   rw [decide_eq_false (fun q => hp ⟨q, by omega⟩)] at H1
   clear hp e hn hr h h2
   unfold hd
   go_enter Tryz.func50, Tryz.ntmps50
   go_wp2_with fail
   refine H1.out.mono ?_
   rintro e w1 ⟨rfl, rfl⟩
   go_wp2_with fail
   go_ret
   exact HF.out

set_option maxRecDepth 100000 in
theorem recs_tell (h : TR F w tb mv f all fun _ => False) (hN : all.length ≤ 3518437208882) (A : Option Addr) (c n : Nat) (p : List Int) (hn : p.length = n) (hbig : n ≤ 140737488355328) (hr : Ns .i64 w w.heap.size A p) :
  Calls Tryz.prog 51 #[hd tb, .slice A n c] w (NewRs (recsF all p) w) := by
 by_cases hp : okP p
 ·have e : recsF all p = beneath all p := by unfold recsF; rw [if_pos hp]
  rw [e]
  exact recs_any h hN A c n p hn hp hbig hr
 ·have e : recsF all p = [] := by unfold recsF; rw [if_neg hp]
  rw [e]
  have H1 := Lib.hid (isPath_any A c n p hn hbig w hr)
  rw [decide_eq_false hp] at H1
  clear hp e hn hr h
  unfold hd
  go_enter Tryz.func51, Tryz.ntmps51
  go_wp2_with fail
  refine H1.out.mono ?_
  rintro e w1 ⟨rfl, rfl⟩
  go_wp2_with fail
  go_ret
  exact ⟨none, 0, 0, [], rfl, Lib.hid ⟨rfl, rfl, Nat.le_refl _, fun h => absurd h (by simp)⟩, Below.refl _ _⟩
end

/-! ### Where lists differ -/
theorem at_any (A : Option Addr) (c n : Nat) (l : List Int) (hn : l.length = n) (i : Nat) (w : World) (hr : Ns .u64 w w.heap.size A l) :
  Calls Tryz.prog 98 #[.slice A n c, .int .i64 (i : Int)] w (fun e w' => e = .returned (.int .u64 (l.getD i 0)) ∧ w = w') := by
 by_cases hi : i < n
 ·obtain ⟨b, off, rfl, _, hc⟩ := hr (by omega)
  have c0 := hc i (by omega)
  obtain ⟨x, hx⟩ : ∃ x, l.getD i 0 = x := ⟨_, rfl⟩
  rw [hx] at c0 ⊢
  have d1 : (0 : Int) ≤ (i : Int) := by omega
  have d2 : (i : Int) < (n : Int) := by omega
  clear hx hr hc hn
  go_enter Tryz.func98, Tryz.ntmps98
  go_wp2_with fail
  go_ret
  exact ⟨rfl, rfl⟩
 ·have hx : l.getD i 0 = 0 := by simp [List.getD_eq_getElem?_getD, List.getElem?_eq_none (show l.length ≤ i by omega)]
  rw [hx]
  have d2 : ¬ (i : Int) < (n : Int) := by omega
  clear hx hr hn
  go_enter Tryz.func98, Tryz.ntmps98
  go_wp2_with fail
  go_ret
  exact ⟨rfl, rfl⟩
def dk (a b : List Int) (k : Nat) : List Int := ((List.range k).filter fun (i : Nat) => !decide (a.getD i 0 = b.getD i 0)).map fun (i : Nat) => (i : Int)
theorem dk_full (a b : List Int) : dk a b 16 = diffF a b := rfl
theorem dk_len (a b : List Int) (k : Nat) : (dk a b k).length ≤ k := by
 unfold dk
 rw [List.length_map]
 refine Nat.le_trans (List.length_filter_le _ _) ?_
 simp
theorem dk_yes {a b : List Int} {k : Nat} (h : a.getD k 0 ≠ b.getD k 0) : dk a b (k + 1) = dk a b k ++ [(k : Int)] := by
 unfold dk
 rw [List.range_succ, List.filter_append, List.map_append, List.filter_cons, if_pos (by simpa using h)]
 rfl
theorem dk_no {a b : List Int} {k : Nat} (h : a.getD k 0 = b.getD k 0) : dk a b (k + 1) = dk a b k := by
 unfold dk
 rw [List.range_succ, List.filter_append, List.map_append, List.filter_cons, if_neg (by simpa using h)]
 simp
def OwnN (l : List Int) (w : World) (e : Ending) (w' : World) : Prop := ∃ A1 m c1, e = .returned (.slice A1 m c1) ∧ Hid (l.length = m ∧ m ≤ c1 ∧ w'.ownsRow w.heap.size 3 1 (.slice A1 m c1) m (nums .i64 l)) ∧ Below w.heap.size w w'
set_option maxRecDepth 100000 in
theorem differ_any (A A' : Option Addr) (c c' n n' : Nat) (a b : List Int) (hn : a.length = n) (hn' : b.length = n') (w : World) (hr : Ns .u64 w w.heap.size A a) (hr' : Ns .u64 w w.heap.size A' b) :
  Calls Tryz.prog 80 #[.slice A n c, .slice A' n' c'] w (OwnN (diffF a b) w) := by
 obtain ⟨i0, hi0, hz0, hz1, hz2⟩ := info_parts info_int
 have HP := Lib.hid (And.intro hn (And.intro hn' (And.intro hr hr')))
 clear hn hn' hr hr'
 go_enter Tryz.func80, Tryz.ntmps80
 go_wp2_with fail
 go_loopw [5, 7] (fun v q wr => ∃ (k m : Nat) (A1 : Option Addr) (c1 : Nat), q = .int .i64 k ∧ k ≤ 16 ∧ v = .slice A1 m c1 ∧ m ≤ k ∧ Hid ((dk a b k).length = m ∧ wr.ownsRow w.heap.size 3 1 (.slice A1 m c1) m (nums .i64 (dk a b k)) ∧ Below w.heap.size w wr)) (fun _ q _ => 16 - (intOf q).toNat)
 case atStart => exact ⟨0, 0, none, 0, rfl, by omega, rfl, by omega, Lib.hid ⟨rfl, World.ownsRow_nil _ _ _ _, Below.refl _ _⟩⟩
 case round =>
  obtain ⟨k, m, A1, c1, rfl, hk, rfl, hmk, hst⟩ := hrel
  by_cases hlt : k < 16
  ·have d1 : (0 : Int) ≤ (k : Int) := by omega
   have d2 : (k : Int) < 16 := by omega
   have hb := hst.out.2.2
   have h1 := at_any A c n a HP.out.1 k wr ((HP.out.2.2.1.below hb).more hb.size)
   have h2 := at_any A' c' n' b HP.out.2.1 k wr ((HP.out.2.2.2.below hb).more hb.size)
   obtain ⟨x, hx⟩ : ∃ x, a.getD k 0 = x := ⟨_, rfl⟩
   obtain ⟨y, hy⟩ : ∃ y, b.getD k 0 = y := ⟨_, rfl⟩
   rw [hx] at h1
   rw [hy] at h2
   have H1 := Lib.hid h1
   have H2 := Lib.hid h2
   have HXY := Lib.hid (And.intro hx hy)
   have hsz := hb.size
   clear h1 h2 hx hy hb
   by_cases hxy : x = y
   ·subst hxy
    have e1 : (x != x) = false := by simp
    have HF : Hid ((dk a b (k + 1)).length = m ∧ wr.ownsRow w.heap.size 3 1 (.slice A1 m c1) m (nums .i64 (dk a b (k + 1))) ∧ Below w.heap.size w wr) := Lib.hid (by
     rw [dk_no (HXY.out.1.trans HXY.out.2.symm)]
     exact hst.out)
    clear hst
    go_wp2_with fail
    refine H1.out.mono ?_
    rintro e w1 ⟨rfl, rfl⟩
    go_wp2_with fail
    refine H2.out.mono ?_
    rintro e w1 ⟨rfl, rfl⟩
    go_wp2_with fail
    go_roundw
    case rel => exact ⟨k + 1, m, A1, c1, by go_num, by omega, rfl, by omega, HF⟩
    case measure => simp only [intOf]; omega
   ·have e1 : (x != y) = true := by simpa using hxy
    have HN : Hid (dk a b (k + 1) = dk a b k ++ [(k : Int)]) := Lib.hid (dk_yes (by rw [HXY.out.1, HXY.out.2]; exact hxy))
    have ho := hst.out.2.1
    have HST := Lib.hid hst.out
    clear hst hxy
    go_wp2_with fail
    refine H1.out.mono ?_
    rintro e w1 ⟨rfl, rfl⟩
    go_wp2_with fail
    refine H2.out.mono ?_
    rintro e w1 ⟨rfl, rfl⟩
    go_wp2_with (at_builtin; refine wpList_append_one _ rfl _ _ 24 rfl w.heap.size 3 i0 _ 8 Tryz.underlying24 hi0 hz0 hz1 hz2 rfl _ m (nums .i64 (dk a b k)) rfl ho (.int .i64 (k : Int)) 1 rfl rfl (by omega) (by omega) hsz ?_; intro v2 w2 o2 g2 at2; obtain ⟨A2, c2, rfl⟩ := own_form o2)
    have HF : Hid ((dk a b (k + 1)).length = m + 1 ∧ w2.ownsRow w.heap.size 3 1 (.slice A2 (m + 1) c2) (m + 1) (nums .i64 (dk a b (k + 1))) ∧ Below w.heap.size w w2) := Lib.hid (by
     rw [HN.out]
     exact ⟨by simp [HST.out.1], by rw [show nums .i64 (dk a b k ++ [(k : Int)]) = nums .i64 (dk a b k) ++ [.int .i64 (k : Int)] by simp [nums]]; exact o2, HST.out.2.2.grown g2 hsz (fun j hj => (ho.lt j hj).1)⟩)
    clear o2 g2 at2 ho
    go_roundw
    case rel => exact ⟨k + 1, m + 1, A2, c2, by go_num, by omega, rfl, by omega, HF⟩
    case measure => simp only [intOf]; omega
  ·have hk16 : k = 16 := by omega
   subst hk16
   rw [dk_full] at hst
   go_wp2_with fail
   go_ret
   exact ⟨A1, m, c1, rfl, Lib.hid ⟨hst.out.1, (own_low hst.out.2.1).1, hst.out.2.1⟩, hst.out.2.2⟩
end Tree
end Go.Proofs.YtkfdplfgaddkmaaGreat

/-
 Trees of a law's own (layer 11): what is done with them, from a world on.
-/
namespace Go.Proofs.YtkfdplfgaddkmaaGreat
namespace Tree
open Go.RowKit Vers Num Ring Disk Blk
open Go.Proofs.YtkfdplfgaddkmaaGreat.Code hiding Bn
def On (F : Nat → Prop) (w V : World) (tb : Nat) (all : List Rc) : Prop := (∃ mv f, TR F V tb mv f all fun _ => False) ∧ Below w.heap.size w V ∧ ∀ j, F j → w.heap.size ≤ j
theorem ns_nil {k : IntKind} {w : World} {L : Nat} {A : Option Addr} : Ns k w L A [] := fun h => by simp at h
section
variable {F G : Nat → Prop} {w V V' : World} {tb : Nat} {all : List Rc}
theorem On.old (h : On F w V tb all) : Below w.heap.size w V := h.2.1
theorem On.own (h : On F w V tb all) : F tb := by
 obtain ⟨⟨mv, f, h⟩, _⟩ := h
 exact h.own
theorem On.lt (h : On F w V tb all) {k : Nat} (hk : F k) : k < V.heap.size := by
 obtain ⟨⟨mv, f, h⟩, _⟩ := h
 exact h.lt k hk
theorem On.okA (h : On F w V tb all) : okAll all := by
 obtain ⟨⟨mv, f, h⟩, _⟩ := h
 exact h.ok
theorem On.chg (h : On F w V tb all) (hc : Chg G V V') (hG : ∀ k, F k → ¬ G k) (hw : ∀ k, G k → w.heap.size ≤ k) : On F w V' tb all := by
 obtain ⟨⟨mv, f, h1⟩, h2, h3⟩ := h
 exact ⟨⟨mv, f, h1.chg hc hG⟩, h2.trans (hc.below hw h2.size), h3⟩
theorem On.below (h : On F w V tb all) (hb : Below V.heap.size V V') : On F w V' tb all := h.chg (G := fun _ => False) (Chg.of_below hb) (fun _ _ h => h) fun _ h => h.elim
theorem On.hash (h : On F w V tb all) (hN : all.length ≤ 3518437208882) (A : Option Addr) (c n : Nat) (p : List Int) (hn : p.length = n) (hbig : n ≤ 140737488355328) (hr : Ns .i64 V V.heap.size A p) :
  Calls Tryz.prog 74 #[hd tb, .slice A n c] V (fun e w' => e = .returned (.int .u64 (hashF all p)) ∧ Hid (On F w w' tb all ∧ Chg (fun k => k = tb) V w')) := by
 obtain ⟨⟨mv, f, h1⟩, h2, h3⟩ := h
 refine (hash_tell h1 hN A c n p hn hbig hr).mono ?_
 rintro e w' ⟨rfl, hx⟩
 exact ⟨rfl, Lib.hid ⟨⟨⟨mv, f, hx.out.1⟩, h2.trans (hx.out.2.below (fun k e => by rw [e]; exact h3 _ h1.own) h2.size), h3⟩, hx.out.2⟩⟩
theorem On.kids (h : On F w V tb all) (hN : all.length ≤ 3518437208882) (A : Option Addr) (c n : Nat) (p : List Int) (hn : p.length = n) (hbig : n ≤ 140737488355328) (hr : Ns .i64 V V.heap.size A p) :
  Calls Tryz.prog 50 #[hd tb, .slice A n c] V (fun e w' => ∃ A m c, e = .returned (.slice A m c) ∧ Hid ((kidsF all p).length = m ∧ m ≤ c ∧ Ns .u64 w' w'.heap.size A (kidsF all p) ∧ (∀ a, 0 < m → A = some a → V.heap.size ≤ a.block) ∧ On F w w' tb all ∧ Chg (fun k => k = tb) V w')) := by
 obtain ⟨⟨mv, f, h1⟩, h2, h3⟩ := h
 refine (kids_tell h1 hN A c n p hn hbig hr).mono ?_
 rintro e w' ⟨A', m, c', rfl, hx⟩
 obtain ⟨q1, q2, q3, q4, q5, q6⟩ := hx.out
 exact ⟨A', m, c', rfl, Lib.hid ⟨q1, q2, q3, q4, ⟨⟨mv, f, q5⟩, h2.trans (q6.below (fun k e => by rw [e]; exact h3 _ h1.own) h2.size), h3⟩, q6⟩⟩
theorem On.recs (h : On F w V tb all) (hN : all.length ≤ 3518437208882) (A : Option Addr) (c n : Nat) (p : List Int) (hn : p.length = n) (hbig : n ≤ 140737488355328) (hr : Ns .i64 V V.heap.size A p) :
  Calls Tryz.prog 51 #[hd tb, .slice A n c] V (fun e w' => ∃ A n c ps, e = .returned (.slice A n c) ∧ Hid (ps.map Prod.fst = recsF all p ∧ n = (recsF all p).length ∧ n ≤ c ∧ Got V.heap.size w' A ps ∧ On F w w' tb all ∧ Below V.heap.size V w')) := by
 have hO := h
 obtain ⟨⟨mv, f, h1⟩, h2, h3⟩ := h
 refine (recs_tell h1 hN A c n p hn hbig hr).mono ?_
 rintro e w' ⟨A', n', c', ps, rfl, hx, hb⟩
 obtain ⟨q1, q2, q3, q4⟩ := hx.out
 exact ⟨A', n', c', ps, rfl, Lib.hid ⟨q1, q2, q3, q4, hO.below hb, hb⟩⟩
theorem On.set (h : On F w V tb all) (hN : all.length ≤ 3518437208882) (key : Nm) (A : Option Addr) (c m : Nat) (lv : List Vr) (hm : lv.length = m) (hv : Vs V 0 V.heap.size A lv) (hok : okR (key, lv)) :
  Calls Tryz.prog 72 #[hd tb, .agg #[.string key, .slice A m c]] V (fun e w' => e = .returned (.int .i64 0) ∧ Hid (∃ F', On F' w w' tb (withR all (key, lv)) ∧ Stp F V F' w')) := by
 obtain ⟨⟨mv, f, h1⟩, h2, h3⟩ := h
 refine (set_ok h1 hN key A c m lv hm hv hok).mono ?_
 rintro e w' ⟨F', mv', f', rfl, hx⟩
 refine ⟨rfl, Lib.hid ⟨F', ⟨⟨mv', f', hx.out.1⟩, h2.trans (hx.out.2.1.below h3 h2.size), fun j hj => ?_⟩, hx.out.2⟩⟩
 rcases hx.out.2.2 j hj with q | q
 ·exact h3 j q
 ·exact Nat.le_trans h2.size q
theorem on_new (hb : Below w.heap.size w V) (A : Option Addr) (c n : Nat) (l : List Rc) (hn : l.length = n) (hbig : n ≤ 3518437208882) (hr : Rs V 0 V.heap.size A l) (hok : ∀ r ∈ l, okR r) :
  Calls Tryz.prog 45 #[.slice A n c] V (fun e w' => ∃ tb, e = .returned (.tuple #[hd tb, .int .i64 0]) ∧ Hid (∃ F, On F w w' tb (layF l) ∧ (∀ k, F k → V.heap.size ≤ k) ∧ Below V.heap.size V w')) := by
 refine (new_any A c n l hn hbig V hr).mono ?_
 rintro e w' (⟨_, F, tb, mv, f, rfl, hx⟩ | ⟨hno, _⟩)
 ·exact ⟨tb, rfl, Lib.hid ⟨F, ⟨⟨mv, f, hx.out.1⟩, hb.trans (hx.out.2.2.mono hb.size), fun j hj => Nat.le_trans hb.size (hx.out.2.1 j hj)⟩, hx.out.2⟩⟩
 ·exact absurd hok hno
theorem no_new (A : Option Addr) (c n : Nat) (l : List Rc) (hn : l.length = n) (hbig : n ≤ 3518437208882) (hr : Rs V 0 V.heap.size A l) (hno : ¬ ∀ r ∈ l, okR r) :
  Calls Tryz.prog 45 #[.slice A n c] V (fun e w' => e = .returned (.tuple #[.pointer none, .int .i64 1]) ∧ Below V.heap.size V w') := by
 refine (new_any A c n l hn hbig V hr).mono ?_
 rintro e w' (⟨hok, _⟩ | ⟨_, rfl, hb⟩)
 ·exact absurd hok hno
 ·exact ⟨rfl, hb⟩
end
theorem rs_nil {w : World} {L B : Nat} {A : Option Addr} : Rs w L B A [] := fun h => by simp at h
end Tree
end Go.Proofs.YtkfdplfgaddkmaaGreat

/-
 The document's hashes.
-/
namespace Go.Proofs.YtkfdplfgaddkmaaGreat
namespace Tree
open Go.RowKit Vers Num Ring Disk Blk
open Go.Proofs.YtkfdplfgaddkmaaGreat.Code hiding Bn
attribute [local go_sem ↓] Go.wp_at_zero Go.wp_at_succ

def textF : Nat → List Rc → List Int → List Int
 | 0, all, p => leafT (beneath all p)
 | k + 1, all, p => kidsT (fun (d : Nat) => hF k all (p ++ [(d : Int)])) 16
theorem hF_text (k : Nat) (all : List Rc) (p : List Int) : hF k all p = if beneath all p = [] then 0 else hashL (textF k all p) := by cases k <;> rfl
def RHashC (k : Nat) : Prop := ∀ (w : World) (A : Option Addr) (c m : Nat) (all : List Rc), all.length = m → m ≤ 3518437208882 → (∀ r ∈ all, okR r) → Rs w 0 w.heap.size A all →
 ∀ (A' : Option Addr) (c' n : Nat) (p : List Int), p.length = n → okP p → p.length + k = 2 → Ns .i64 w w.heap.size A' p → Calls Tryz.prog 54 #[.slice A m c, .slice A' n c'] w (fun e w' => e = .returned (.int .u64 (hF k all p)) ∧ Below w.heap.size w w')
def RTextC (k : Nat) : Prop := ∀ (w : World) (A : Option Addr) (c m : Nat) (all : List Rc), all.length = m → m ≤ 3518437208882 → (∀ r ∈ all, okR r) → Rs w 0 w.heap.size A all →
 ∀ (A' : Option Addr) (c' n : Nat) (p : List Int), p.length = n → okP p → p.length + k = 2 → Ns .i64 w w.heap.size A' p → Calls Tryz.prog 79 #[.slice A m c, .slice A' n c'] w (OwnB w.heap.size (textF k all p) w)

set_option maxRecDepth 100000 in
set_option maxHeartbeats 2000000 in
theorem rtext_zero : RTextC 0 := by
 intro w A c m all hm hm2 hok hv A' c' n p hn hp hk hr
 obtain rfl : n = 2 := by omega
 have hR := ref_recs_any A A' c c' 2 m all p hm hm2 hn (by omega) w hv hr hp
 rw [show recsF all p = beneath all p by unfold recsF; rw [if_pos hp]] at hR
 have HR := Lib.hid hR
 have hx : textF 0 all p = leafT (beneath all p) := rfl
 have hlen := beneath_len all p
 have HOK : Hid (∀ r ∈ beneath all p, okR r) := Lib.hid fun r hr => hok r (beneath_mem.1 hr).1
 obtain ⟨R, hRR⟩ : ∃ R, beneath all p = R := ⟨_, rfl⟩
 rw [hRR] at hx hlen HR HOK
 rw [hx]
 clear hR hx hRR hn hp hr hk hv hok
 go_enter Tryz.func79, Tryz.ntmps79
 go_wp2_with fail
 refine HR.out.mono ?_
 rintro e w2 ⟨A2, m2, c2, ps, rfl, h2, b2⟩
 have hm3 : m2 ≤ 3518437208882 := by have := h2.out.2.1; omega
 have hrs := h2.out.2.2.2.rs b2.size
 rw [h2.out.1] at hrs
 have HB2 := Lib.hid (And.intro b2 (And.intro h2.out.2.1 hrs))
 have HI : Hid (Written (leafK R) m2 w2.heap.size w2 (.slice none 0 0) (.int .i64 0) w2) := Lib.hid ⟨0, 0, none, 0, rfl, by omega, rfl, by omega, Lib.hid ⟨by simp [leafT, leafK], World.ownsRow_nil _ _ _ _, Below.refl _ _⟩⟩
 clear h2 b2 HR hrs
 go_wp2_with fail
 go_loopw [5, 7] (fun v q wr => Written (leafK R) m2 w2.heap.size w2 v q wr) (fun _ q _ => m2 - (intOf q).toNat)
 case atStart => exact HI.out
 case round =>
  clear HI
  obtain ⟨i, n, A3, c3, rfl, hi, rfl, hn10, hst⟩ := hrel
  by_cases hlt : i < m2
  ·have d1 : (0 : Int) ≤ (i : Int) := by omega
   have d2 : (i : Int) < (m2 : Int) := by omega
   have hRl : R.length = m2 := HB2.out.2.1
   obtain ⟨pb, off, A4, c4, rfl, _, hbB, k0, k1, k2, k3⟩ := HB2.out.2.2.at hRl hst.out.2.2 hlt rfl
   have hRi : i < R.length := by omega
   have hmem : R.getD i r0 ∈ R := by
    rw [List.getD_eq_getElem?_getD, List.getElem?_eq_getElem hRi]
    exact List.getElem_mem _
   have hok := HOK.out _ hmem
   have HTk : Hid (R.take (i + 1) = R.take i ++ [R.getD i r0]) := Lib.hid (by
    rw [List.take_succ_eq_append_getElem hRi]
    simp [List.getD_eq_getElem?_getD, hRi])
   obtain ⟨r, hrr⟩ : ∃ r, R.getD i r0 = r := ⟨_, rfl⟩
   rw [hrr] at k0 k1 k2 k3 hok HTk
   obtain ⟨key, lv⟩ := r
   simp only at k0 k1 k2 k3
   obtain ⟨ml, hml⟩ : ∃ ml, lv.length = ml := ⟨_, rfl⟩
   rw [hml] at k1 k3
   have hsz := hst.out.2.2.size
   have hvs : Vs wr.drew 0 wr.drew.heap.size A4 lv := k2.more hsz
   have hM := ref_mark_any key A4 c4 ml lv hml hok.2.1 hok.2.2 wr.drew hvs
   have hU : U (markF (key, lv)) := hash_range _
   obtain ⟨x, hx⟩ : ∃ x, markF (key, lv) = x := ⟨_, rfl⟩
   rw [hx] at hM hU
   have hl10 := halves_len10 hU
   have HP : Hid (Calls Tryz.prog 97 #[.string key, .slice A4 ml c4] wr.drew fun e w3 => e = .returned (.int .u64 x) ∧ w3.cell? ⟨pb, off + i * 2, none⟩ = some (.string key) ∧ w3.cell? ⟨pb, off + i * 2 + 1, none⟩ = some (.slice A4 ml c4) ∧ Hid (Calls Tryz.prog 96 #[.slice A3 n c3, .int .u64 x] w3 fun e w4 => ∃ A5 n5 c5, e = .returned (.slice A5 n5 c5) ∧ w4.cell? ⟨pb, off + i * 2, none⟩ = some (.string key) ∧ w4.cell? ⟨pb, off + i * 2 + 1, none⟩ = some (.slice A4 ml c4) ∧ Hid (Written (leafK R) m2 w2.heap.size w2 (.slice A5 n5 c5) (.int .i64 ((i : Int) + 1)) w4))) := Lib.hid (by
    refine hM.mono ?_
    rintro e w3 ⟨he, b3⟩
    have b3' : Below wr.heap.size wr w3 := (show Below wr.heap.size wr wr.drew from (Below.refl _ _).drew).trans b3
    have o3 := own_below hst.out.2.1 b3' (Nat.le_refl _)
    have s3 := b3'.size
    have hHv := halves_any A3 c3 n (leafK R i) hst.out.1 (by omega) x hU w2.heap.size w3 (by omega) o3
    refine ⟨he, (World.cell?_of_block (b3'.block pb (by omega))).trans k0, (World.cell?_of_block (b3'.block pb (by omega))).trans k1, Lib.hid (hHv.mono ?_)⟩
    rintro e2 w4 ⟨A5, c5, he2, o5, b5⟩
    have hLK : leafK R (i + 1) = leafK R i ++ halves x := by unfold leafK; rw [HTk.out]; simp only [leafT, List.flatMap_append, List.flatMap_cons, List.flatMap_nil, List.append_nil, hx]
    refine ⟨A5, _, c5, he2, (World.cell?_of_block (b5.block pb hbB)).trans ((World.cell?_of_block (b3'.block pb (by omega))).trans k0), (World.cell?_of_block (b5.block pb hbB)).trans ((World.cell?_of_block (b3'.block pb (by omega))).trans k1), Lib.hid ⟨i + 1, _, A5, c5, by go_num, by omega, rfl, by rw [List.length_append, hst.out.1]; omega, Lib.hid ⟨by rw [hLK], by rw [hLK]; exact o5.out, (hst.out.2.2.trans (b3'.mono hsz)).trans b5⟩⟩⟩)
   clear hst hvs hx k2 k3 hmem hok hml hU hM hrr hl10
   go_wp2_with fail
   go_region_held3 (fun V => V.cell? ⟨pb, off + i * 2, none⟩ = some (.string key) ∧ V.cell? ⟨pb, off + i * 2 + 1, none⟩ = some (.slice A4 ml c4))
    (first | exact ⟨k0, k1⟩ | (refine ⟨?_, ?_⟩ <;> assumption))
    (first
     | (go_at_call 97; refine HP.out.mono ?_; rintro e w3 ⟨rfl, q0, q1, HH⟩)
     | (go_at_call 96; refine HH.out.mono ?_; rintro e w4 ⟨A5, n5, c5, rfl, z0, z1, HF⟩))
   all_goals
    go_wp2_with fail
    go_roundw
    case rel => exact HF.out
    case measure => simp only [intOf]; omega
  ·have him : i = m2 := by omega
   subst him
   have hfull : R.take i = R := List.take_of_length_le (by have := HB2.out.2.1; omega)
   have hst' := hst.out
   unfold leafK at hst'
   simp only [hfull] at hst'
   have HF : Hid (OwnB w.heap.size (leafT R) w (.returned (.slice A3 n c3)) wr) := Lib.hid (by
    have h9 := hst'.2.1
    have h8 := hst'.1
    rw [← h8] at h9
    refine ⟨A3, c3, by rw [h8], Lib.hid (own_base h9 HB2.out.1.size), HB2.out.1.trans (hst'.2.2.mono HB2.out.1.size)⟩)
   clear hst hst' hfull
   go_wp2_with fail
   go_ret
   exact HF.out

set_option maxRecDepth 100000 in
set_option maxHeartbeats 2000000 in
theorem rtext_succ {k : Nat} (HK : RHashC k) : RTextC (k + 1) := by
 intro w A c m all hm hm2 hok hv A' c' n p hn hp hk hr
 have hn2 : n < 2 := by omega
 have e1 : ((n : Int) == 2) = false := by simp; omega
 have hR := ref_recs_any A A' c c' n m all p hm hm2 hn (by omega) w hv hr hp
 rw [show recsF all p = beneath all p by unfold recsF; rw [if_pos hp]] at hR
 have HR := Lib.hid hR
 have hlen := beneath_len all p
 have HH : Hid (∀ (W : World) (A2 : Option Addr) (c2 m2 : Nat) (A3 : Option Addr) (c3 d : Nat), d < 16 → m2 = (beneath all p).length → Rs W 0 W.heap.size A2 (beneath all p) → Ns .i64 W W.heap.size A3 (p ++ [(d : Int)]) → Calls Tryz.prog 54 #[.slice A2 m2 c2, .slice A3 (n + 1) c3] W (fun e w' => e = .returned (.int .u64 (hF k all (p ++ [(d : Int)]))) ∧ Below W.heap.size W w')) := Lib.hid fun W A2 c2 m2 A3 c3 d hd hm3 hrs hns => by
  have hq := ok_longer hp (by omega) hd
  have h9 := HK W A2 c2 m2 (beneath all p) hm3.symm (by omega) (fun r hr => hok r (beneath_mem.1 hr).1) hrs A3 c3 (n + 1) (p ++ [(d : Int)]) (by simp [hn]) hq (by simp; omega) hns
  rwa [hF_beneath k all p (d : Int) hq (by omega)] at h9
 have hL := fun (W : World) (d : Nat) (hW : Ns .i64 W W.heap.size A' p) => ref_longer_any A' c' n p hn (by omega) (d : Int) W hW
 have HL := Lib.hid hL
 obtain ⟨h', hh'⟩ : ∃ h' : Nat → Int, (fun (d : Nat) => hF k all (p ++ [(d : Int)])) = h' := ⟨_, rfl⟩
 have HU : Hid (∀ d : Nat, U (h' d)) := Lib.hid fun d => by rw [← hh']; exact hF_range _ _ _
 have HV : Hid (∀ d : Nat, hF k all (p ++ [(d : Int)]) = h' d) := Lib.hid fun d => congrFun hh' d
 have hx : textF (k + 1) all p = kidsT h' 16 := by rw [← hh']; rfl
 rw [hx]
 have HN := Lib.hid (And.intro hr hn)
 obtain ⟨R, hRR⟩ : ∃ R, beneath all p = R := ⟨_, rfl⟩
 rw [hRR] at HR HH hlen
 clear hR hx hRR hn hp hr hk hv hok hL hh' HK
 go_enter Tryz.func79, Tryz.ntmps79
 go_wp2_with fail
 refine HR.out.mono ?_
 rintro e w2 ⟨A2, m2, c2, ps, rfl, h2, b2⟩
 have hrs := h2.out.2.2.2.rs b2.size
 rw [h2.out.1] at hrs
 have HB2 := Lib.hid (And.intro b2 (And.intro h2.out.2.1 hrs))
 have HI : Hid (Written (kidsT h') 16 w2.heap.size w2 (.slice none 0 0) (.int .i64 0) w2) := Lib.hid ⟨0, 0, none, 0, rfl, by omega, rfl, by omega, Lib.hid ⟨rfl, World.ownsRow_nil _ _ _ _, Below.refl _ _⟩⟩
 clear h2 b2 HR hrs
 go_wp2_with fail
 go_loopw [5, 8] (fun v q wr => Written (kidsT h') 16 w2.heap.size w2 v q wr) (fun _ q _ => 16 - (intOf q).toNat)
 case atStart => exact HI.out
 case round =>
  clear HI
  obtain ⟨i, n', A3, c3, rfl, hi, rfl, hn10, hst⟩ := hrel
  by_cases hlt : i < 16
  ·have d1 : (0 : Int) ≤ (i : Int) := by omega
   have d2 : (i : Int) < 16 := by omega
   have hb := hst.out.2.2
   have hbw := HB2.out.1.trans (hb.mono HB2.out.1.size)
   have hsz := hb.size
   have hK := Lib.hid (HL.out wr i ((HN.out.1.below hbw).more hbw.size))
   have HO := Lib.hid hst.out
   clear hst hb hbw
   go_wp2_with fail
   refine hK.out.mono ?_
   rintro e w3 ⟨A4, c4, rfl, o4, b4⟩
   have s4 := b4.size
   have hns : Ns .i64 w3 w3.heap.size A4 (p ++ [(i : Int)]) := by
    have h := o4.out
    rw [show n + 1 = (p ++ [(i : Int)]).length by simp [HN.out.2]] at h
    exact own_ns h
   have hbb := HO.out.2.2.trans (b4.mono hsz)
   have hH := HH.out w3 A2 c2 m2 A4 c4 i hlt HB2.out.2.1.symm ((HB2.out.2.2.below hbb).more hbb.size) hns
   rw [HV.out i] at hH
   have hH' := Lib.hid hH
   have ho4 := own_below HO.out.2.1 b4 (Nat.le_refl _)
   have HO4 := Lib.hid (And.intro ho4 (And.intro hbb b4))
   clear o4 b4 hns hH hbb ho4 hK
   go_wp2_with fail
   refine hH'.out.mono ?_
   rintro e w5 ⟨rfl, b5⟩
   have o5 := own_below HO4.out.1 b5 (Nat.le_refl _)
   have s5 := b5.size
   obtain ⟨x, hx⟩ : ∃ x, h' i = x := ⟨_, rfl⟩
   have hU : U x := by rw [← hx]; exact HU.out i
   rw [hx]
   have hl10 := halves_len10 hU
   have hP := Lib.hid (halves_any A3 c3 n' (kidsT h' i) HO.out.1 (by omega) x hU w2.heap.size w5 (by omega) o5)
   have HX := Lib.hid hx
   have HB5 := Lib.hid (HO4.out.2.1.trans (b5.mono (by omega)))
   clear o5 b5 hU hx hH'
   go_wp2_with fail
   refine hP.out.mono ?_
   rintro e w6 ⟨A5, c5, rfl, o6, b6⟩
   have HF : Hid (Written (kidsT h') 16 w2.heap.size w2 (.slice A5 (kidsT h' i ++ halves x).length c5) (.int .i64 ((i : Int) + 1)) w6) := Lib.hid ⟨i + 1, _, A5, c5, by go_num, by omega, rfl, by rw [List.length_append, HO.out.1]; omega, Lib.hid ⟨by
     rw [kidsT_succ, HX.out], by
     have h := o6.out
     rw [kidsT_succ, HX.out]
     exact h, HB5.out.trans b6⟩⟩
   obtain ⟨n5, hn5⟩ : ∃ n5, (kidsT h' i ++ halves x).length = n5 := ⟨_, rfl⟩
   rw [hn5] at HF ⊢
   clear o6 b6 hP hn5 hl10
   go_wp2_with fail
   go_roundw
   case rel => exact HF.out
   case measure => simp only [intOf]; omega
  ·have him : i = 16 := by omega
   subst him
   have HF : Hid (OwnB w.heap.size (kidsT h' 16) w (.returned (.slice A3 n' c3)) wr) := Lib.hid (by
    have h9 := hst.out.2.1
    have h8 := hst.out.1
    rw [← h8] at h9
    refine ⟨A3, c3, by rw [h8], Lib.hid (own_base h9 HB2.out.1.size), HB2.out.1.trans (hst.out.2.2.mono HB2.out.1.size)⟩)
   clear hst
   go_wp2_with fail
   go_ret
   exact HF.out

set_option maxRecDepth 100000 in
set_option maxHeartbeats 2000000 in
theorem rhash_text {k : Nat} (HT : RTextC k) : RHashC k := by
 intro w A c m all hm hm2 hok hv A' c' n p hn hp hk hr
 have hPa := path_any A' c' n p hn (by omega) w hr
 rw [decide_eq_true hp] at hPa
 have HPa := Lib.hid hPa
 have hR := ref_recs_any A A' c c' n m all p hm hm2 hn (by omega) w hv hr hp
 rw [show recsF all p = beneath all p by unfold recsF; rw [if_pos hp]] at hR
 have HR := Lib.hid hR
 have HTT : Hid (∀ W, Below w.heap.size w W → Calls Tryz.prog 79 #[.slice A m c, .slice A' n c'] W (OwnB W.heap.size (textF k all p) W)) := Lib.hid fun W hW => HT W A c m all hm hm2 hok ((hv.below hW).more hW.size) A' c' n p hn hp hk ((hr.below hW).more hW.size)
 have hx := hF_text k all p
 have hlen := beneath_len all p
 have HBY : Hid ((∀ z ∈ textF k all p, 0 ≤ z ∧ z ≤ 255) ∧ (textF k all p).length ≤ 140737488355328) := Lib.hid (by
  cases k with
  | zero => exact ⟨leafT_bytes _, by have := leafT_len (beneath all p); show (leafT (beneath all p)).length ≤ _; omega⟩
  | succ k => exact ⟨kidsT_bytes _ 16 fun d => hF_range _ _ _, by have := kidsT_len (fun (d : Nat) => hF k all (p ++ [(d : Int)])) 16 fun d => hF_range _ _ _; show (kidsT _ 16).length ≤ _; omega⟩)
 obtain ⟨T, hTT⟩ : ∃ T, textF k all p = T := ⟨_, rfl⟩
 rw [hTT] at hx HTT HBY
 rw [hx]
 obtain ⟨R, hRR⟩ : ∃ R, beneath all p = R := ⟨_, rfl⟩
 rw [hRR] at HR ⊢
 obtain ⟨V, hV⟩ : ∃ V, (if R = [] then 0 else hashL T) = V := ⟨_, rfl⟩
 rw [hV]
 have HVV := Lib.hid hV
 clear hPa hR hx hlen hTT hRR hn hp hk hr hv hok hm HT hV
 go_enter Tryz.func54, Tryz.ntmps54
 go_wp2_with fail
 refine HPa.out.mono ?_
 rintro e w1 ⟨rfl, rfl⟩
 go_wp2_with fail
 refine HR.out.mono ?_
 rintro e w2 ⟨A2, m2, c2, ps, rfl, h2, b2⟩
 have HM := Lib.hid h2.out.2.1
 have HB2 := Lib.hid b2
 clear h2 b2 HR HPa
 by_cases hm0 : m2 = 0
 ·have e1 : ((m2 : Int) == 0) = true := by rw [hm0]; rfl
  have HR0 : Hid (R = []) := Lib.hid (List.eq_nil_of_length_eq_zero (by rw [HM.out, hm0]))
  clear hm0
  go_wp2_with fail
  go_ret
  exact ⟨by rw [← HVV.out, if_pos HR0.out]; rfl, HB2.out⟩
 ·have e1 : ((m2 : Int) == 0) = false := by simp; omega
  have HR0 : Hid (R ≠ []) := Lib.hid fun h => by have := HM.out; rw [h] at this; simp at this; omega
  clear hm0
  go_wp2_with fail
  refine (HTT.out w2 HB2.out).mono ?_
  rintro e w3 ⟨A5, c5, rfl, o5, b5⟩
  have hs5 := b5
  have hK := Lib.hid (ref_hash_any A5 c5 T.length T rfl HBY.out.1 w3 (own_ns o5.out) HBY.out.2)
  have HB5 := Lib.hid (HB2.out.trans (b5.mono HB2.out.size))
  obtain ⟨n5, hn5⟩ : ∃ n5, T.length = n5 := ⟨_, rfl⟩
  rw [hn5] at hK ⊢
  clear o5 b5 hs5 hn5
  go_wp2_with fail
  refine hK.out.mono ?_
  rintro e w4 ⟨rfl, rfl⟩
  go_wp2_with fail
  go_ret
  exact ⟨by rw [← HVV.out, if_neg HR0.out]; rfl, HB5.out⟩
theorem rhash_all : ∀ k, RHashC k
 | 0 => rhash_text rtext_zero
 | k + 1 => rhash_text (rtext_succ (rhash_all k))

set_option maxRecDepth 100000 in
theorem ref_hash_tell (w : World) (A : Option Addr) (c m : Nat) (all : List Rc) (hm : all.length = m) (hm2 : m ≤ 3518437208882) (hok : ∀ r ∈ all, okR r) (hv : Rs w 0 w.heap.size A all) (A' : Option Addr) (c' n : Nat) (p : List Int) (hn : p.length = n) (hbig : n ≤ 140737488355328) (hr : Ns .i64 w w.heap.size A' p) :
  Calls Tryz.prog 54 #[.slice A m c, .slice A' n c'] w (fun e w' => e = .returned (.int .u64 (hashF all p)) ∧ Below w.heap.size w w') := by
 by_cases hp : okP p
 ·have e : hashF all p = hF (2 - p.length) all p := by unfold hashF; rw [if_pos hp]
  rw [e]
  exact rhash_all (2 - p.length) w A c m all hm hm2 hok hv A' c' n p hn hp (by have := hp.2; omega) hr
 ·have e : hashF all p = 0 := by unfold hashF; rw [if_neg hp]
  rw [e]
  have hPa := path_any A' c' n p hn hbig w hr
  rw [decide_eq_false hp] at hPa
  have HPa := Lib.hid hPa
  clear hPa hp e hn hr hv hok hm
  go_enter Tryz.func54, Tryz.ntmps54
  go_wp2_with fail
  refine HPa.out.mono ?_
  rintro e w1 ⟨rfl, rfl⟩
  go_wp2_with fail
  go_ret
  exact ⟨rfl, Below.refl _ _⟩
end Tree
end Go.Proofs.YtkfdplfgaddkmaaGreat

/-
 The document's lists of hashes; records, whatever the path.
-/
namespace Go.Proofs.YtkfdplfgaddkmaaGreat
namespace Tree
open Go.RowKit Vers Num Ring Disk Blk
open Go.Proofs.YtkfdplfgaddkmaaGreat.Code hiding Bn
attribute [local go_sem ↓] Go.wp_at_zero Go.wp_at_succ

theorem ref_recs_tell (A A' : Option Addr) (c c' n m : Nat) (all : List Rc) (p : List Int) (hm : all.length = m) (hm2 : m ≤ 3518437208882) (hn : p.length = n) (hbig : n ≤ 140737488355328) (w : World) (hv : Rs w 0 w.heap.size A all) (hr : Ns .i64 w w.heap.size A' p) :
  Calls Tryz.prog 53 #[.slice A m c, .slice A' n c'] w (NewS (recsF all p) w) := by
 by_cases hp : okP p
 ·exact ref_recs_any A A' c c' n m all p hm hm2 hn hbig w hv hr hp
 ·exact ref_recs_no A A' c c' n m all p hm hm2 hn hbig w hr hp
end Tree
end Go.Proofs.YtkfdplfgaddkmaaGreat

/-
 The document's Give (layer 14).
-/
namespace Go.Proofs.YtkfdplfgaddkmaaGreat
namespace Mend
open Go.RowKit Vers Num Ring Disk Blk Tree
open Go.Proofs.YtkfdplfgaddkmaaGreat.Code hiding Bn
attribute [local go_sem ↓] Go.wp_at_zero Go.wp_at_succ
theorem filter_take {l : List Rc} (f : Rc → Bool) {k : Nat} {r : Rc} (hk : k < l.length) (hr : l.getD k r0 = r) : (l.take (k + 1)).filter f = (l.take k).filter f ++ (if f r = true then [r] else []) := by
 rw [take_at hk, hr, List.filter_append, List.filter_cons, List.filter_nil]
theorem rs_rb {w : World} {A : Option Addr} {l : List Rc} (h : Rs w 0 w.heap.size A l) : Rb w w.heap.size A l := fun hp => by
 obtain ⟨b, off, e, _, hb, hc⟩ := h hp
 exact ⟨b, off, e, hb, hc⟩
theorem rb_rs {w : World} {B : Nat} {A : Option Addr} {l : List Rc} (h : Rb w B A l) (hB : B ≤ w.heap.size) : Rs w 0 w.heap.size A l := fun hp => by
 obtain ⟨b, off, e, hb, hc⟩ := h hp
 refine ⟨b, off, e, Nat.zero_le _, hb, fun j hj => ?_⟩
 obtain ⟨A', c', h0, h1, h2, h3⟩ := hc j hj
 exact ⟨A', c', h0, h1, h2.more hB, h3⟩
def GrowR (f : Rc → Bool) (B n : Nat) (R : List Rc) (U : World) (v q : Value) (wr : World) : Prop :=
 ∃ (i x : Nat) (A1 : Option Addr) (c1 : Nat), q = .int .i64 i ∧ i ≤ n ∧ v = .slice A1 x c1 ∧ x ≤ i ∧ Hid (∃ ps, ps.map Prod.fst = (R.take i).filter f ∧ ps.length = x ∧ RowX U.heap.size B wr (.slice A1 x c1) ps ∧ Below U.heap.size U wr)
theorem GrowR.more {f : Rc → Bool} {B n i x c1 : Nat} {R : List Rc} {U wr W : World} {A1 A4 : Option Addr} {c4 ml : Nat} {key : Nm} {lv : List Vr} (h : ∃ ps, ps.map Prod.fst = (R.take i).filter f ∧ ps.length = x ∧ RowX U.heap.size B wr (.slice A1 x c1) ps ∧ Below U.heap.size U wr) (hi : i < n) (hx : x ≤ i) (hR : R.length = n) (hr : R.getD i r0 = (key, lv)) (hf : f (key, lv) = true) (hb : Below wr.heap.size wr W) (hB : B ≤ U.heap.size) (hml : lv.length = ml) (hv : Vs W 0 B A4 lv) (hz : ml ≤ c4 ∧ ml ≤ 140737488355328 ∧ key.size ≤ 140737488355328) :
  ∃ ps, ps.length = x ∧ W.ownsRow U.heap.size 70 2 (.slice A1 x c1) x (rcs ps) ∧ U.heap.size ≤ W.heap.size ∧ ∀ (w4 : World) (A5 : Option Addr) (c5 : Nat), w4.ownsRow U.heap.size 70 2 (.slice A5 (x + 1) c5) (x + 1) (rcs (ps ++ [((key, lv), A4, c4)])) → W.grownBy w4 (Value.slice A1 x c1).ownBlock → GrowR f B n R U (.slice A5 (x + 1) c5) (.int .i64 ((i : Int) + 1)) w4 := by
 obtain ⟨ps, h1, h2, h3, h4⟩ := h
 have hUW := h4.trans (hb.mono h4.size)
 have hrow := RowX.keepB h3 hb (Nat.le_trans hB h4.size)
 have hro := hrow.1
 rw [h2] at hro
 refine ⟨ps, h2, hro, hUW.size, fun w4 A5 c5 o4 g4 => ?_⟩
 have hp := RowX.put (key := key) (lv := lv) (ml := ml) hrow h2 hB hUW.size hUW hml hv hz o4 g4
 refine ⟨i + 1, x + 1, A5, c5, by push_cast; rfl, by omega, rfl, by omega, Lib.hid ⟨_, ?_, by simp [h2], hp.1, hp.2⟩⟩
 rw [filter_take f (by omega) hr, hf, List.map_append, h1]
 simp
end Mend
end Go.Proofs.YtkfdplfgaddkmaaGreat

/-
 Steps of an answer in memory: rows of three slices each (layer 14).
-/
namespace Go.Proofs.YtkfdplfgaddkmaaGreat
namespace Mend
open Go.RowKit Vers Num Ring Disk Blk Tree
open Go.Proofs.YtkfdplfgaddkmaaGreat.Code hiding Bn
abbrev Sl3 := Option Addr × Nat × Nat
abbrev St := Sl3 × Sl3 × Sl3
def slV (x : Sl3) : Value := .slice x.1 x.2.1 x.2.2
def stc (x : St) : List Value := [slV x.1, slV x.2.1, slV x.2.2]
def stcs (l : List St) : List Value := l.flatMap stc
theorem stcs_at (l : List St) : ∀ (j : Nat) (x : St), l[j]? = some x → ∀ r, r < 3 → (stcs l)[j * 3 + r]? = (stc x)[r]? := by
 induction l with
 | nil => intro j x h; simp at h
 | cons y l ih =>
  intro j x hj r hr
  have hc : stcs (y :: l) = stc y ++ stcs l := by simp [stcs]
  rw [hc]
  cases j with
  | zero =>
   simp at hj
   subst hj
   rw [Nat.zero_mul, Nat.zero_add, List.getElem?_append_left (by simp [stc]; omega)]
  | succ j =>
   rw [List.getElem?_cons_succ] at hj
   rw [List.getElem?_append_right (by simp [stc]; omega)]
   have e : (j + 1) * 3 + r - (stc y).length = j * 3 + r := by simp [stc]; omega
   rw [e]
   exact ih j x hj r hr
section
variable {P : Program} {w : World}
end
def StIs (w : World) (x : St) (s : Stp3) : Prop :=
 (s.1.length = x.1.2.1 ∧ x.1.2.1 ≤ 4 ∧ Ns .i64 w w.heap.size x.1.1 s.1) ∧ (s.2.1.length = x.2.1.2.1 ∧ x.2.1.2.1 ≤ 16 ∧ Ns .u64 w w.heap.size x.2.1.1 s.2.1) ∧ s.2.2.length = x.2.2.2.1 ∧ x.2.2.2.1 ≤ 3518437208882 ∧ Rs w 0 w.heap.size x.2.2.1 s.2.2
theorem StIs.below {w w' : World} {x : St} {s : Stp3} (h : StIs w x s) (hb : Below w.heap.size w w') : StIs w' x s :=
 ⟨⟨h.1.1, h.1.2.1, (h.1.2.2.below hb).more hb.size⟩, ⟨h.2.1.1, h.2.1.2.1, (h.2.1.2.2.below hb).more hb.size⟩, h.2.2.1, h.2.2.2.1, (h.2.2.2.2.below hb).more hb.size⟩
def Sta (G : Nat → Prop) (w : World) (P : World → Prop) : Prop := ∀ w', w.heap.size ≤ w'.heap.size → (∀ k, k < w.heap.size → ¬ G k → w'.heap[k]? = w.heap[k]?) → P w'
theorem Sta.now {G : Nat → Prop} {w : World} {P : World → Prop} (h : Sta G w P) : P w := h w (Nat.le_refl _) fun _ _ _ => rfl
theorem Sta.less {G G' : Nat → Prop} {w : World} {P : World → Prop} (h : Sta G w P) (hG : ∀ k, G' k → G k) : Sta G' w P := fun w' hs hk => h w' hs fun k h1 h2 => hk k h1 fun h3 => h2 (hG k h3)
theorem Sta.go {G G' : Nat → Prop} {w w' : World} {P : World → Prop} (h : Sta G w P) (hs : w.heap.size ≤ w'.heap.size) (hk : ∀ k, k < w.heap.size → ¬ G k → w'.heap[k]? = w.heap[k]?) (hG : ∀ k, k < w.heap.size → G' k → G k) : Sta G' w' P := fun w2 hs2 hk2 => h w2 (Nat.le_trans hs hs2) fun k h1 h2 => (hk2 k (Nat.lt_of_lt_of_le h1 hs) fun h3 => h2 (hG k h1 h3)).trans (hk k h1 h2)
def StepsR (X : Nat → Prop) (t : TypeId) (base : Nat) (L : List Stp3) (v : Value) (w : World) : Prop :=
 ∃ sts : List St, sts.length = L.length ∧ w.ownsRow base t 3 v L.length (stcs sts) ∧ ∀ (j : Nat) (s : Stp3) (x : St), L[j]? = some s → sts[j]? = some x → Sta (fun k => X k ∨ v.ownBlock = some k) w (fun W => StIs W x s)
theorem StepsR.less {X X' : Nat → Prop} {t : TypeId} {base : Nat} {L : List Stp3} {v : Value} {w : World} (h : StepsR X t base L v w) (hX : ∀ k, X' k → X k) : StepsR X' t base L v w := by
 obtain ⟨sts, h1, h2, h3⟩ := h
 exact ⟨sts, h1, h2, fun j s x a b => (h3 j s x a b).less fun k hk => hk.imp (hX k) id⟩
theorem StepsR.low {X : Nat → Prop} {t : TypeId} {base base' : Nat} {L : List Stp3} {v : Value} {w : World} (h : StepsR X t base L v w) (hb : base' ≤ base) : StepsR X t base' L v w := by
 obtain ⟨sts, h1, ⟨h0, h2⟩, h3⟩ := h
 refine ⟨sts, h1, ⟨h0, ?_⟩, h3⟩
 rcases h2 with h2 | ⟨g, cap, cur, e, hg, hr⟩
 ·exact .inl h2
 ·exact .inr ⟨g, cap, cur, e, Nat.le_trans hb hg, hr⟩
theorem StepsR.chg {X : Nat → Prop} {t : TypeId} {base : Nat} {L : List Stp3} {v : Value} {w w' : World} (h : StepsR X t base L v w) (hc : Chg X w w') (hX : ∀ g, v.ownBlock = some g → ¬ X g) : StepsR X t base L v w' := by
 obtain ⟨sts, h1, h2, h3⟩ := h
 refine ⟨sts, h1, Blk.own_keep h2 fun g hg => hc.block g (h2.lt g hg).2 (hX g hg), fun j s x a b => (h3 j s x a b).go hc.size (fun k hk hn => hc.block k hk fun e => hn (.inl e)) fun k _ hk => hk⟩
theorem StepsR.below {X : Nat → Prop} {t : TypeId} {base : Nat} {L : List Stp3} {v : Value} {w w' : World} (h : StepsR X t base L v w) (hb : Below w.heap.size w w') : StepsR X t base L v w' := by
 obtain ⟨sts, h1, h2, h3⟩ := h
 exact ⟨sts, h1, own_below h2 hb (Nat.le_refl _), fun j s x a b => (h3 j s x a b).go hb.size (fun k hk _ => hb.block k hk) fun k _ hk => hk⟩
end Mend
end Go.Proofs.YtkfdplfgaddkmaaGreat

/-
 The document's Differ (layer 14; TreeDiffer without the place, which TreeDoc has).
-/
namespace Go.Proofs.YtkfdplfgaddkmaaGreat
namespace Tree
open Go.RowKit Vers Num Ring Disk Blk
open Go.Proofs.YtkfdplfgaddkmaaGreat.Code hiding Bn
attribute [local go_sem ↓] Go.wp_at_zero Go.wp_at_succ

end Tree
end Go.Proofs.YtkfdplfgaddkmaaGreat

/-
 What an answer tells (layer 14).
-/
namespace Go.Proofs.YtkfdplfgaddkmaaGreat
namespace Mend
open Go.RowKit Vers Num Ring Disk Blk Tree
open Go.Proofs.YtkfdplfgaddkmaaGreat.Code hiding Bn
attribute [local go_sem ↓] Go.wp_at_zero Go.wp_at_succ
end Mend
end Go.Proofs.YtkfdplfgaddkmaaGreat

/-
 The document's Recs, told where the versions lie (layer 14).
-/
namespace Go.Proofs.YtkfdplfgaddkmaaGreat
namespace Tree
open Go.RowKit Vers Num Ring Disk Blk
open Go.Proofs.YtkfdplfgaddkmaaGreat.Code hiding Bn
attribute [local go_sem ↓] Go.wp_at_zero Go.wp_at_succ
end Tree
end Go.Proofs.YtkfdplfgaddkmaaGreat

/-
 The document's Take (layer 14).
-/
namespace Go.Proofs.YtkfdplfgaddkmaaGreat
namespace Mend
open Go.RowKit Vers Num Ring Disk Blk Tree
open Go.Proofs.YtkfdplfgaddkmaaGreat.Code hiding Bn
attribute [local go_sem ↓] Go.wp_at_zero Go.wp_at_succ
theorem rb_more {w : World} {B B' : Nat} {A : Option Addr} {l : List Rc} (h : Rb w B A l) (hB : B ≤ B') : Rb w B' A l := fun hp => by
 obtain ⟨b, off, e, hb, hc⟩ := h hp
 refine ⟨b, off, e, hb, fun j hj => ?_⟩
 obtain ⟨A', c', h0, h1, h2, h3⟩ := hc j hj
 exact ⟨A', c', h0, h1, h2.more hB, h3⟩
end Mend
end Go.Proofs.YtkfdplfgaddkmaaGreat

/-
 firthlaw14.laid and both: records laid into a list, records merged into a list (layer 14).
-/
namespace Go.Proofs.YtkfdplfgaddkmaaGreat
namespace Mend
open Go.RowKit Vers Num Ring Disk Blk Tree
open Go.Proofs.YtkfdplfgaddkmaaGreat.Code hiding Bn
attribute [local go_sem ↓] Go.wp_at_zero Go.wp_at_succ
theorem foldw_take {l : List Rc} {k : Nat} {r : Rc} (was : List Rc) (hk : k < l.length) (hr : l.getD k r0 = r) : (l.take (k + 1)).foldl withR was = withR ((l.take k).foldl withR was) r := by
 rw [take_at hk, hr, List.foldl_append]
 rfl
def okB (a b : List Rc) : Prop := ∀ k, k < b.length → (mergeF (getF ((b.take k).foldl mergeR a) (b.getD k r0).1) (b.getD k r0).2).2 = 0
end Mend
end Go.Proofs.YtkfdplfgaddkmaaGreat

/-
 firthlaw14.plain: are these versions such as writes make them? Written by gen14/plain.py.
-/
namespace Go.Proofs.YtkfdplfgaddkmaaGreat
namespace Mend
open Go.RowKit Vers Span Blk
attribute [local go_sem ↓] Go.wp_at_zero Go.wp_at_succ
def plP (x y : Vr) : Bool := !decide (behind [x] y.s y.n) || (!decide (behind [y] x.s x.n) && underF y.past x.past)
def plB (l : List Vr) : Bool := l.all fun x => l.all fun y => plP x y
end Mend
end Go.Proofs.YtkfdplfgaddkmaaGreat

/-
 firthlaw14.written: are the versions of two, key by key, such as writes make them? Written by gen14/written.py.
-/
namespace Go.Proofs.YtkfdplfgaddkmaaGreat
namespace Mend
open Go.RowKit Vers Num Ring Disk Blk Tree
open Span (cell_below)
open Go.Proofs.YtkfdplfgaddkmaaGreat.Code hiding Bn
attribute [local go_sem ↓] Go.wp_at_zero Go.wp_at_succ
end Mend
end Go.Proofs.YtkfdplfgaddkmaaGreat

/-
 What awake's answers are (layer 14).
-/
namespace Go.Proofs.YtkfdplfgaddkmaaGreat
namespace Mend
open Go.RowKit Vers Num Ring Disk Blk Tree
open Go.Proofs.YtkfdplfgaddkmaaGreat.Code hiding Bn
def kN : Nm := ⟨#[107]⟩
def kV : Vr := ⟨1, 1, [], false, ⟨#[118]⟩⟩
def kR : Rc := (kN, [kV])
theorem aw_ok : okR kR := by decide
theorem aw_okL : okL [kR] := fun r hr => by rw [List.mem_singleton.1 hr]; exact aw_ok
theorem okL_nil : okL [] := fun _r hr => nomatch hr
end Mend
end Go.Proofs.YtkfdplfgaddkmaaGreat

/-
 slices.Clone of numbers: what it makes is the call's own, and can be appended to.
-/
namespace Go.Proofs.YtkfdplfgaddkmaaGreat
namespace Ints
open Go.RowKit Vers Span
attribute [local go_sem ↓] Go.wp_at_zero Go.wp_at_succ

theorem info_intC : (Tryz.prog.info? 3).map (fun i => (i.zero, i.size, i.bytes)) = some (some (.int .i64 0), 1, 8) := by kernel_rfl
def OwnI (l : List Int) (n : Nat) (w : World) (e : Ending) (w' : World) : Prop := ∃ A1 c1, e = .returned (.slice A1 n c1) ∧ Hid (w'.ownsRow w.heap.size 3 1 (.slice A1 n c1) n (nums .i64 l)) ∧ Below w.heap.size w w'
set_option maxRecDepth 100000 in
theorem clone_row (A : Option Addr) (c n : Nat) (l : List Int) (hn : l.length = n) (w : World) (hr : Ns .i64 w w.heap.size A l) (hbig : n ≤ 17592186043904) :
  Calls Tryz.prog 66 #[.slice A n c] w (OwnI l n w) := by
 obtain ⟨i0, hi0, hz0, hz1, hz2⟩ := info_parts info_intC
 rcases A with _ | ad
 ·have h0 : l = [] := by
   rcases Nat.eq_zero_or_pos l.length with h0 | h0
   ·exact List.eq_nil_of_length_eq_zero h0
   ·obtain ⟨b, off, he, _⟩ := hr h0
    cases he
  subst h0
  obtain rfl : n = 0 := hn.symm
  have hne := Lib.run_eql_slice_nil (P := Tryz.prog) w 24 3 none 0 c 0 0 Tryz.underlying24
  rw [show (none : Option Addr).isNone = true from rfl] at hne
  go_enter Tryz.func66, Tryz.ntmps66
  go_wp2_with fail
  go_ret
  exact ⟨none, 0, rfl, Lib.hid (World.ownsRow_nil _ _ _ _), Below.refl _ _⟩
 ·have ho := World.ownsRow_lit (base := w.heap.size) (e := 3) (size := 1) w #[] 0 (Nat.le_refl _) (by unfold maxLen; omega) rfl
  have q2 : Ns .i64 (w.alloc (.cells #[] 3)) w.heap.size (some ad) l := hr.below ((Below.refl _ w).alloc (Nat.le_refl _) _)
  have hne := Lib.run_eql_slice_nil (P := Tryz.prog) w 24 3 (some ad) n c 0 0 Tryz.underlying24
  rw [show (some ad).isNone = false from rfl] at hne
  have Hn := Lib.hid hn
  clear hr hn
  go_enter Tryz.func66, Tryz.ntmps66
  have b0 := (Below.refl w.heap.size w).alloc (Nat.le_refl _) (.cells #[] 3)
  go_wp2_with (at_builtin; refine wpList_append_ns _ rfl (.tmp 5) (.tmp 6) 24 rfl w.heap.size 3 i0 _ 8 Tryz.underlying24 hi0 hz0 hz1 hz2 rfl _ 0 [] rfl ho .i64 w.heap.size (some ad) n c l Hn.out rfl q2 (by omega) (by omega) (by simp) ?_; intro v1 w1 o1 g1 at1)
  have b1 := b0.grown g1 (by simp) (fun j hj => (ho.lt j hj).1)
  obtain ⟨A1, c1, rfl⟩ := own_form o1
  rw [Nat.zero_add, List.nil_append] at o1
  have HF := Lib.hid (And.intro o1 b1)
  clear o1 g1 at1 b1 b0 ho q2
  go_wp2_with fail
  go_ret
  exact ⟨A1, c1, by simp, Lib.hid (by simpa using HF.out.1), HF.out.2⟩
end Ints
end Go.Proofs.YtkfdplfgaddkmaaGreat

/-
 The map by which one holds records (layer 14).
-/
namespace Go.Proofs.YtkfdplfgaddkmaaGreat
namespace Mend
open Go.RowKit Blk Go.Maps Disk Tree Vers Num Ring
open Go.Proofs.YtkfdplfgaddkmaaGreat.Code hiding Bn
attribute [local go_sem ↓] Go.wp_at_zero Go.wp_at_succ
section
variable {w w' : World} {mb : Nat} {l : Vl}
end
def HoldR (w : World) (B : Nat) (D : Vl) (L : List Rc) : Prop := ∀ k, (find L k = none ∧ find D k = none) ∨ ∃ lv A c, find L k = some lv ∧ find D k = some (.slice A lv.length c) ∧ Vs w 0 B A lv ∧ lv.length ≤ c ∧ lv.length ≤ 512
theorem HoldR.keep {w w' : World} {B : Nat} {D : Vl} {L : List Rc} (h : HoldR w B D L) (hb : Below B w w') : HoldR w' B D L := fun k => by
 rcases h k with h | ⟨lv, A, c, h1, h2, h3, h4⟩
 ·exact .inl h
 ·exact .inr ⟨lv, A, c, h1, h2, h3.below hb, h4⟩
theorem HoldR.put {w : World} {B : Nat} {D : Vl} {L : List Rc} (h : HoldR w B D L) {key : Nm} {lv : List Vr} {A : Option Addr} {c m : Nat} (hm : lv.length = m) (hv : Vs w 0 B A lv) (hc : m ≤ c) (h5 : lv.length ≤ 512) : HoldR w B (wit D key (.slice A m c)) (wit L key lv) := fun k => by
 rw [find_wit, find_wit]
 by_cases hk : k = key
 ·rw [if_pos hk, if_pos hk]
  exact .inr ⟨lv, A, c, rfl, by rw [hm], hv, by omega, h5⟩
 ·rw [if_neg hk, if_neg hk]
  exact h k
end Mend
end Go.Proofs.YtkfdplfgaddkmaaGreat

/-
 mend.Give (layer 14).
-/
namespace Go.Proofs.YtkfdplfgaddkmaaGreat
namespace Mend
open Go.RowKit Vers Num Ring Disk Blk Tree
open Go.Proofs.YtkfdplfgaddkmaaGreat.Code hiding Bn
attribute [local go_sem ↓] Go.wp_at_zero Go.wp_at_succ
end Mend
end Go.Proofs.YtkfdplfgaddkmaaGreat

/-
 mend.Open: the hashes by which one begins (layer 14).
-/
namespace Go.Proofs.YtkfdplfgaddkmaaGreat
namespace Mend
open Go.RowKit Vers Num Ring Disk Blk Tree
open Go.Proofs.YtkfdplfgaddkmaaGreat.Code hiding Bn
attribute [local go_sem ↓] Go.wp_at_zero Go.wp_at_succ
end Mend
end Go.Proofs.YtkfdplfgaddkmaaGreat
