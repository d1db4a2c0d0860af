/-
  A new tree; trees made of lists.
-/
import Derived.Test.YtbaclinjimfncaaGreatTreeSet
namespace Go.Proofs.YtbaclinjimfncaaGreat
namespace Tree
open Go.RowKit Vers Num Ring Disk Blk
open Go.Proofs.YtbaclinjimfncaaGreat.Code hiding Bn
attribute [local go_sem ↓] Go.wp_at_zero Go.wp_at_succ

def z4 : Nat → List Value
  | 0 => []
  | n + 1 => .int .u32 0 :: .int .i32 0 :: .int .u32 0 :: .int .u64 0 :: z4 n
theorem z4_at : ∀ (n s : Nat), s < n → (z4 n)[4 * s]? = some (.int .u32 0) ∧ (z4 n)[4 * s + 1]? = some (.int .i32 0) ∧ (z4 n)[4 * s + 2]? = some (.int .u32 0) ∧ (z4 n)[4 * s + 3]? = some (.int .u64 0)
  | n + 1, 0, _ => ⟨rfl, rfl, rfl, rfl⟩
  | n + 1, s + 1, h => by
    have ih := z4_at n s (by omega)
    unfold z4
    rw [show 4 * (s + 1) = 4 * s + 1 + 1 + 1 + 1 by omega, show 4 * s + 1 + 1 + 1 + 1 + 1 = 4 * s + 1 + 1 + 1 + 1 + 1 from rfl]
    refine ⟨?_, ?_, ?_, ?_⟩
    · simp only [List.getElem?_cons_succ]; exact ih.1
    · rw [show 4 * s + 1 + 1 + 1 + 1 + 1 = (4 * s + 1) + 1 + 1 + 1 + 1 by omega]; simp only [List.getElem?_cons_succ]; exact ih.2.1
    · rw [show 4 * s + 1 + 1 + 1 + 1 + 2 = (4 * s + 2) + 1 + 1 + 1 + 1 by omega]; simp only [List.getElem?_cons_succ]; exact ih.2.2.1
    · rw [show 4 * s + 1 + 1 + 1 + 1 + 3 = (4 * s + 3) + 1 + 1 + 1 + 1 by omega]; simp only [List.getElem?_cons_succ]; exact ih.2.2.2
theorem z4_len : ∀ n, (z4 n).length = 4 * n
  | 0 => rfl
  | n + 1 => by simp only [z4, List.length_cons, z4_len n]; omega
/-- The cells of a new tree. -/
def zt : List Value := List.replicate 256 (.map none) ++ z4 273
theorem rep_at (n i : Nat) (h : i < n) (v : Value) (B : List Value) : (List.replicate n v ++ B)[i]? = some v := by
  rw [List.getElem?_append_left (by rw [List.length_replicate]; exact h), List.getElem?_replicate_of_lt h]
theorem app_at (n j : Nat) (v : Value) (B : List Value) : (List.replicate n v ++ B)[n + j]? = B[j]? := by
  rw [List.getElem?_append_right (by rw [List.length_replicate]; omega), List.length_replicate, Nat.add_sub_cancel_left]
theorem cells_zero : Cells zt (fun _ => none) [] fun _ => False := by
  refine ⟨?_, fun i hi => rep_at 256 i hi _ _, fun p hp => ?_⟩
  · unfold zt
    rw [List.length_append, List.length_replicate, z4_len]
  · have hs := z4_at 273 (spotN p) (spot_lt hp)
    have e : ∀ r, zt[256 + 4 * spotN p + r]? = (z4 273)[4 * spotN p + r]? := fun r => by
      rw [Nat.add_assoc]
      exact app_at 256 _ _ _
    exact ⟨0, 0, 0, (e 0).trans hs.1, (e 1).trans hs.2.1, (e 2).trans hs.2.2.1, (e 3).trans hs.2.2.2, fun h => h.elim, fun _ => ⟨rfl, .inl rfl⟩⟩
theorem zc_eq : Tryz.zeroCells82 = zt.toArray := by kernel_rfl
/-- A tree that is new. -/
theorem tr_new (w : World) : TR (fun k => k = w.heap.size) (w.alloc (.cells Tryz.zeroCells82 82)) w.heap.size (fun _ => none) (fun _ => (none, 0)) [] fun _ => False :=
  ⟨⟨zt, (by rw [zc_eq]; exact World.alloc_heap_new _ _), cells_zero⟩, fun _ _ => ⟨fun _ => rfl, (fun mb h => by cases h)⟩, (fun _ _ k _ _ h => by cases h), (fun r hr => by cases hr), ⟨Srt.nil, (fun r hr => by cases hr)⟩, rfl, (fun k hk => by rw [hk, World.size_alloc]; omega)⟩
/-- What comes of records that are laid one by one. -/
def layF (l : List Rc) : List Rc := l.foldl withR []
theorem layF_snoc (l : List Rc) (r : Rc) : layF (l ++ [r]) = withR (layF l) r := by simp [layF]
theorem fold_len (l : List Rc) : ∀ acc : List Rc, (l.foldl withR acc).length ≤ acc.length + l.length := by
  induction l with
  | nil => intro acc; simp
  | cons r l ih =>
    intro acc
    have h1 := ih (withR acc r)
    have h2 := with_len acc r
    simp only [List.foldl_cons, List.length_cons]
    omega
theorem layF_len (l : List Rc) : (layF l).length ≤ l.length := by
  have h := fold_len l []
  unfold layF
  simpa using h
/-- What New tells. -/
def NewT (l : List Rc) (w : World) (e : Ending) (w' : World) : Prop :=
  ((∀ r ∈ l, okR r) ∧ ∃ F tb mv f, e = .returned (.tuple #[hd tb, .int .i64 0]) ∧ Hid (TR F w' tb mv f (layF l) (fun _ => False) ∧ (∀ k, F k → w.heap.size ≤ k) ∧ Below w.heap.size w w')) ∨
  ((¬ ∀ r ∈ l, okR r) ∧ e = .returned (.tuple #[.pointer none, .int .i64 1]) ∧ Below w.heap.size w w')
set_option maxRecDepth 100000 in
set_option maxHeartbeats 2000000 in
theorem new_any (A : Option Addr) (c n : Nat) (l : List Rc) (hn : l.length = n) (hbig : n ≤ 3518437208882) (w : World) (hr : Rs w 0 w.heap.size A l) :
    Calls Tryz.prog 19 #[.slice A n c] w (NewT l w) := by
  obtain ⟨tb, htb⟩ : ∃ tb, w.heap.size = tb := ⟨_, rfl⟩
  have HI : Hid (∀ V, V = w.alloc (.cells Tryz.zeroCells82 82) → ∃ (F : Nat → Prop) (mv : Nat → Option Nat) (f : Fp), (∀ r ∈ l.take 0, okR r) ∧ TR F V tb mv f (layF (l.take 0)) (fun _ => False) ∧ (∀ k, F k → w.heap.size ≤ k) ∧ Below w.heap.size w V) := Lib.hid fun V hV => ⟨fun k => k = w.heap.size, fun _ => none, fun _ => (none, 0), by simp, by rw [hV, ← htb]; exact tr_new w, (fun k hk => by rw [hk]; exact Nat.le_refl _), by rw [hV]; exact (Below.refl _ _).alloc (Nat.le_refl _) _⟩
  have HP := Lib.hid (And.intro hr (And.intro hn htb))
  clear hr hn
  go_enter Tryz.func19, Tryz.ntmps19
  go_wp2_with fail
  obtain ⟨V, hV⟩ : ∃ V, w.alloc (.cells Tryz.zeroCells82 82) = V := ⟨_, rfl⟩
  have HI2 := Lib.hid (HI.out V hV.symm)
  rw [hV]
  clear hV htb HI
  go_loopw [12] (fun q wr => ∃ k : Nat, q = .int .i64 k ∧ k ≤ n ∧ Hid (∃ (F : Nat → Prop) (mv : Nat → Option Nat) (f : Fp), (∀ r ∈ l.take k, okR r) ∧ TR F wr tb mv f (layF (l.take k)) (fun _ => False) ∧ (∀ k, F k → w.heap.size ≤ k) ∧ Below w.heap.size w wr)) (fun q _ => n - (intOf q).toNat)
  case atStart => exact ⟨0, rfl, by omega, HI2⟩
  case round =>
    clear HI2
    obtain ⟨k, rfl, hk, hst⟩ := hrel
    obtain ⟨F, mv, f, hok, hT, hF, hb⟩ := hst.out
    by_cases hlt : k < n
    · have d1 : (0 : Int) ≤ (k : Int) := by omega
      have d2 : (k : Int) < (n : Int) := by omega
      obtain ⟨pb, off, A4, c4, rfl, _, hbB, k0, k1, k2, k3⟩ := HP.out.1.at HP.out.2.1 hb hlt rfl
      have hkl : k < l.length := by have := HP.out.2.1; omega
      have HTk : Hid (l.take (k + 1) = l.take k ++ [l.getD k r0]) := Lib.hid (by
        rw [List.take_succ_eq_append_getElem hkl]
        simp [List.getD_eq_getElem?_getD, hkl])
      have hmem : l.getD k r0 ∈ l := by
        rw [List.getD_eq_getElem?_getD, List.getElem?_eq_getElem hkl]
        exact List.getElem_mem _
      obtain ⟨r, hrr⟩ : ∃ r, l.getD k r0 = r := ⟨_, rfl⟩
      rw [hrr] at k0 k1 k2 k3 HTk hmem
      obtain ⟨key, lv⟩ := r
      simp only at k0 k1 k2 k3
      obtain ⟨ml, hml⟩ : ∃ ml, lv.length = ml := ⟨_, rfl⟩
      rw [hml] at k1 k3
      have hsz := hb.size
      obtain ⟨V2, hV2⟩ : ∃ V2, wr.alloc (.cells #[.string key, .slice A4 ml c4] 45) = V2 := ⟨_, rfl⟩
      have hbV : Below wr.heap.size wr V2 := by rw [← hV2]; exact (Below.refl _ _).alloc (Nat.le_refl _) _
      have hBV : Bn wr.heap.size 45 [.string key, .slice A4 ml c4] V2 := by rw [← hV2]; exact World.alloc_heap_new _ _
      have v0 := hBV.cell 0
      have v1 := hBV.cell 1
      simp only [List.getElem?_cons_zero, List.getElem?_cons_succ] at v0 v1
      have hTV := hT.below hbV
      have hvs : Vs V2 0 V2.heap.size A4 lv := ((k2.below (hbV.mono hsz)).more (Nat.le_trans hsz hbV.size)).less (Nat.zero_le _)
      have hlen : (layF (l.take k)).length ≤ 3518437208882 := by have := layF_len (l.take k); rw [List.length_take] at this; omega
      have bV : Below w.heap.size w V2 := hb.trans (hbV.mono hsz)
      by_cases hokr : okR (key, lv)
      · have hS := Lib.hid (set_ok hTV hlen key A4 c4 ml lv hml hvs hokr)
        have HO := Lib.hid (And.intro hok (And.intro hF (And.intro bV hokr)))
        clear hst hok hT hF hb hTV hvs hbV hBV k2 hmem hrr hml hlen bV hokr
        unfold hd at hS
        go_wp2_with fail
        refine hS.out.mono ?_
        rintro e w3 ⟨F', mv', f', rfl, h3⟩
        have HF : Hid (∃ (F : Nat → Prop) (mv : Nat → Option Nat) (f : Fp), (∀ r ∈ l.take (k + 1), okR r) ∧ TR F w3 tb mv f (layF (l.take (k + 1))) (fun _ => False) ∧ (∀ k, F k → w.heap.size ≤ k) ∧ Below w.heap.size w w3) := Lib.hid (by
          have ho := h3.out.2.old HO.out.2.2.1 HO.out.2.1
          refine ⟨F', mv', f', fun r hr => ?_, by rw [HTk.out, layF_snoc]; exact h3.out.1, ho.2, ho.1⟩
          rw [HTk.out] at hr
          rcases List.mem_append.1 hr with hr | hr
          · exact HO.out.1 r hr
          · rw [List.mem_singleton.1 hr]; exact HO.out.2.2.2)
        clear h3 hS
        go_wp2_with fail
        go_roundw
        case rel => exact ⟨k + 1, by go_num, by omega, HF⟩
        case measure => simp only [intOf]; omega
      · have hS := Lib.hid (set_bad hTV key A4 c4 ml lv hml (by omega) (by omega) hvs hokr)
        have HF : Hid (¬ ∀ r ∈ l, okR r) := Lib.hid fun h9 => hokr (h9 _ hmem)
        have HO := Lib.hid bV
        clear hst hok hT hF hb hTV hvs hbV hBV k2 hmem hrr hml hlen bV hokr
        unfold hd at hS
        go_wp2_with fail
        refine hS.out.mono ?_
        rintro e w3 ⟨rfl, b3⟩
        have HB3 := Lib.hid (HO.out.trans (b3.mono HO.out.size))
        clear b3 hS
        go_wp2_with fail
        go_ret2
        exact .inr ⟨HF.out, rfl, HB3.out⟩
    · have hkn : k = n := by omega
      subst hkn
      have hfull : l.take k = l := List.take_of_length_le (by have := HP.out.2.1; omega)
      rw [hfull] at hok hT
      have HF : Hid (NewT l w (.returned (.tuple #[hd tb, .int .i64 0])) wr) := Lib.hid (.inl ⟨hok, F, tb, mv, f, rfl, Lib.hid ⟨hT, hF, hb⟩⟩)
      clear hst hok hT hF hb hfull
      unfold hd at HF
      go_wp2_with fail
      go_ret2
      exact HF.out
end Tree
end Go.Proofs.YtbaclinjimfncaaGreat
