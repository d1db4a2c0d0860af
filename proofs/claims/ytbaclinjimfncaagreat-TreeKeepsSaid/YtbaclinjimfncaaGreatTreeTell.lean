/-
  What a tree tells, whatever the path; where two lists of hashes differ.
-/
import Derived.Test.YtbaclinjimfncaaGreatTreeHash
import Derived.Test.YtbaclinjimfncaaGreatTreeNew
namespace Go.Proofs.YtbaclinjimfncaaGreat
namespace Tree
open Go.RowKit Vers Num Ring Disk Blk
open Go.Proofs.YtbaclinjimfncaaGreat.Code hiding Bn
attribute [local go_sem ↓] Go.wp_at_zero Go.wp_at_succ

section
variable {F : Nat → Prop} {w : World} {tb : Nat} {mv : Nat → Option Nat} {f : Fp} {all : List Rc}
set_option maxRecDepth 100000 in
set_option maxHeartbeats 2000000 in
theorem hash_tell (h : TR F w tb mv f all fun _ => False) (hN : all.length ≤ 3518437208882) (A : Option Addr) (c n : Nat) (p : List Int) (hn : p.length = n) (hbig : n ≤ 140737488355328) (hr : Ns .i64 w w.heap.size A p) :
    Calls Tryz.prog 11 #[hd tb, .slice A n c] w (Told F tb mv f all (fun _ => False) (hashF all p) w) := by
  by_cases hp : okP p
  · have e : hashF all p = hF (2 - p.length) all p := by unfold hashF; rw [if_pos hp]
    rw [e]
    exact hash_all (2 - p.length) F w tb mv f all (fun _ => False) h hN A c n p hn hp (by have := hp.2; omega) hr fun _ _ _ q => q
  · have e : hashF all p = 0 := by unfold hashF; rw [if_neg hp]
    rw [e]
    obtain ⟨U, hU⟩ : ∃ U, (w.alloc (.cells #[hd tb] 25)).alloc (.cells #[.slice A n c] 23) = U := ⟨_, rfl⟩
    have hbU : Below w.heap.size w U := by rw [← hU]; exact ((Below.refl _ _).alloc (Nat.le_refl _) _).alloc (by simp) _
    have B1 : Bn (w.heap.size + 1) 23 [.slice A n c] U := by
      have h := World.alloc_heap_new (w.alloc (.cells #[hd tb] 25)) (.cells #[.slice A n c] 23)
      rw [hU] at h
      show U.heap[w.heap.size + 1]? = _
      simpa using h
    have a1 := B1.cell 0
    simp only [List.getElem?_cons_zero] at a1
    have H1 := Lib.hid (isPath_any A c n p hn hbig U (h.ns (Chg.of_below hbU) hr))
    rw [decide_eq_false hp] at H1
    have HF : Hid (TR F U tb mv f all (fun _ => False) ∧ Chg (fun k => k = tb) w U) := Lib.hid ⟨h.below hbU, Chg.of_below hbU⟩
    clear hp e hn hr h hbU B1
    unfold hd at hU ⊢
    go_enter Tryz.func11, Tryz.ntmps11
    go_wp2_with fail
    refine H1.out.mono ?_
    rintro e w1 ⟨rfl, rfl⟩
    go_wp2_with fail
    go_ret
    exact ⟨rfl, HF⟩

/-- A list of hashes is told. -/
def KidsQ (F : Nat → Prop) (tb : Nat) (mv : Nat → Option Nat) (f : Fp) (all : List Rc) (zs : List Int) (w : World) (e : Ending) (w' : World) : Prop :=
  ∃ A m c, e = .returned (.slice A m c) ∧ Hid (zs.length = m ∧ m ≤ c ∧ Ns .u64 w' w'.heap.size A zs ∧ (∀ a, 0 < m → A = some a → w.heap.size ≤ a.block) ∧ TR F w' tb mv f all (fun _ => False) ∧ Chg (fun k => k = tb) w w')
set_option maxRecDepth 100000 in
set_option maxHeartbeats 2000000 in
theorem kids_tell (h : TR F w tb mv f all fun _ => False) (hN : all.length ≤ 3518437208882) (A : Option Addr) (c n : Nat) (p : List Int) (hn : p.length = n) (hbig : n ≤ 140737488355328) (hr : Ns .i64 w w.heap.size A p) :
    Calls Tryz.prog 14 #[hd tb, .slice A n c] w (KidsQ F tb mv f all (kidsF all p) w) := by
  by_cases hp : okP p ∧ p.length < 2
  · have e : kidsF all p = (List.range 16).map fun (d : Nat) => hF (1 - p.length) all (p ++ [(d : Int)]) := by
      unfold kidsF
      rw [if_pos hp]
      refine List.map_congr_left fun d hd => ?_
      unfold hashF
      rw [if_pos (ok_longer hp.1 hp.2 (List.mem_range.1 hd))]
      congr 1
      rw [List.length_append]
      simp only [List.length_cons, List.length_nil]
      omega
    rw [e]
    refine (kids_some (hash_all (1 - p.length)) h hN A c n p hn hp.1 (by have := hp.2; omega) hr fun _ _ _ _ q => q).mono ?_
    rintro e w' ⟨g, he, hh⟩
    refine ⟨some ⟨g, 0, none⟩, 16, 16, he, Lib.hid ⟨by simp, Nat.le_refl _, bn_ns hh.out.2.1, fun a _ ha => by injection ha with ha; rw [← ha]; exact hh.out.1, hh.out.2.2⟩⟩
  · have e : kidsF all p = [] := by unfold kidsF; rw [if_neg hp]
    rw [e]
    have HF : Hid (KidsQ F tb mv f all [] w (.returned (.slice none 0 0)) w) := Lib.hid ⟨none, 0, 0, rfl, Lib.hid ⟨rfl, Nat.le_refl _, Ns.nil _, fun _ h _ => absurd h (by omega), h, Chg.refl _ _⟩⟩
    by_cases h2 : 2 ≤ n
    · have e1 : decide ((2 : Int) ≤ (n : Int)) = true := decide_eq_true (by omega)
      clear hp e hn hr h h2
      unfold hd
      go_enter Tryz.func14, Tryz.ntmps14
      go_wp2_with fail
      go_ret
      exact HF.out
    · have e1 : decide ((2 : Int) ≤ (n : Int)) = false := decide_eq_false (by omega)
      have H1 := Lib.hid (isPath_any A c n p hn hbig w hr)
      rw [decide_eq_false (fun q => hp ⟨q, by omega⟩)] at H1
      clear hp e hn hr h h2
      unfold hd
      go_enter Tryz.func14, Tryz.ntmps14
      go_wp2_with fail
      refine H1.out.mono ?_
      rintro e w1 ⟨rfl, rfl⟩
      go_wp2_with fail
      go_ret
      exact HF.out

set_option maxRecDepth 100000 in
theorem recs_tell (h : TR F w tb mv f all fun _ => False) (hN : all.length ≤ 3518437208882) (A : Option Addr) (c n : Nat) (p : List Int) (hn : p.length = n) (hbig : n ≤ 140737488355328) (hr : Ns .i64 w w.heap.size A p) :
    Calls Tryz.prog 17 #[hd tb, .slice A n c] w (NewRs (recsF all p) w) := by
  by_cases hp : okP p
  · have e : recsF all p = beneath all p := by unfold recsF; rw [if_pos hp]
    rw [e]
    exact recs_any h hN A c n p hn hp hbig hr
  · have e : recsF all p = [] := by unfold recsF; rw [if_neg hp]
    rw [e]
    have H1 := Lib.hid (isPath_any A c n p hn hbig w hr)
    rw [decide_eq_false hp] at H1
    clear hp e hn hr h
    unfold hd
    go_enter Tryz.func17, Tryz.ntmps17
    go_wp2_with fail
    refine H1.out.mono ?_
    rintro e w1 ⟨rfl, rfl⟩
    go_wp2_with fail
    go_ret
    exact ⟨none, 0, 0, [], rfl, Lib.hid ⟨rfl, rfl, Nat.le_refl _, fun h => absurd h (by simp)⟩, Below.refl _ _⟩
end

/-! ### Where lists differ -/
theorem at_any (A : Option Addr) (c n : Nat) (l : List Int) (hn : l.length = n) (i : Nat) (w : World) (hr : Ns .u64 w w.heap.size A l) :
    Calls Tryz.prog 47 #[.slice A n c, .int .i64 (i : Int)] w (fun e w' => e = .returned (.int .u64 (l.getD i 0)) ∧ w = w') := by
  by_cases hi : i < n
  · obtain ⟨b, off, rfl, _, hc⟩ := hr (by omega)
    have c0 := hc i (by omega)
    obtain ⟨x, hx⟩ : ∃ x, l.getD i 0 = x := ⟨_, rfl⟩
    rw [hx] at c0 ⊢
    have d1 : (0 : Int) ≤ (i : Int) := by omega
    have d2 : (i : Int) < (n : Int) := by omega
    clear hx hr hc hn
    go_enter Tryz.func47, Tryz.ntmps47
    go_wp2_with fail
    go_ret
    exact ⟨rfl, rfl⟩
  · have hx : l.getD i 0 = 0 := by simp [List.getD_eq_getElem?_getD, List.getElem?_eq_none (show l.length ≤ i by omega)]
    rw [hx]
    have d2 : ¬ (i : Int) < (n : Int) := by omega
    clear hx hr hn
    go_enter Tryz.func47, Tryz.ntmps47
    go_wp2_with fail
    go_ret
    exact ⟨rfl, rfl⟩
/-- The first k numbers at which two lists differ. -/
def dk (a b : List Int) (k : Nat) : List Int := ((List.range k).filter fun (i : Nat) => !decide (a.getD i 0 = b.getD i 0)).map fun (i : Nat) => (i : Int)
theorem dk_full (a b : List Int) : dk a b 16 = diffF a b := rfl
theorem dk_len (a b : List Int) (k : Nat) : (dk a b k).length ≤ k := by
  unfold dk
  rw [List.length_map]
  refine Nat.le_trans (List.length_filter_le _ _) ?_
  simp
theorem dk_yes {a b : List Int} {k : Nat} (h : a.getD k 0 ≠ b.getD k 0) : dk a b (k + 1) = dk a b k ++ [(k : Int)] := by
  unfold dk
  rw [List.range_succ, List.filter_append, List.map_append, List.filter_cons, if_pos (by simpa using h)]
  rfl
theorem dk_no {a b : List Int} {k : Nat} (h : a.getD k 0 = b.getD k 0) : dk a b (k + 1) = dk a b k := by
  unfold dk
  rw [List.range_succ, List.filter_append, List.map_append, List.filter_cons, if_neg (by simpa using h)]
  simp
/-- Numbers of the call's own. -/
def OwnN (l : List Int) (w : World) (e : Ending) (w' : World) : Prop := ∃ A1 m c1, e = .returned (.slice A1 m c1) ∧ Hid (l.length = m ∧ m ≤ c1 ∧ w'.ownsRow w.heap.size 3 1 (.slice A1 m c1) m (nums .i64 l)) ∧ Below w.heap.size w w'
set_option maxRecDepth 100000 in
theorem differ_any (A A' : Option Addr) (c c' n n' : Nat) (a b : List Int) (hn : a.length = n) (hn' : b.length = n') (w : World) (hr : Ns .u64 w w.heap.size A a) (hr' : Ns .u64 w w.heap.size A' b) :
    Calls Tryz.prog 23 #[.slice A n c, .slice A' n' c'] w (OwnN (diffF a b) w) := by
  obtain ⟨i0, hi0, hz0, hz1, hz2⟩ := info_parts info_int
  have HP := Lib.hid (And.intro hn (And.intro hn' (And.intro hr hr')))
  clear hn hn' hr hr'
  go_enter Tryz.func23, Tryz.ntmps23
  go_wp2_with fail
  go_loopw [5, 7] (fun v q wr => ∃ (k m : Nat) (A1 : Option Addr) (c1 : Nat), q = .int .i64 k ∧ k ≤ 16 ∧ v = .slice A1 m c1 ∧ m ≤ k ∧ Hid ((dk a b k).length = m ∧ wr.ownsRow w.heap.size 3 1 (.slice A1 m c1) m (nums .i64 (dk a b k)) ∧ Below w.heap.size w wr)) (fun _ q _ => 16 - (intOf q).toNat)
  case atStart => exact ⟨0, 0, none, 0, rfl, by omega, rfl, by omega, Lib.hid ⟨rfl, World.ownsRow_nil _ _ _ _, Below.refl _ _⟩⟩
  case round =>
    obtain ⟨k, m, A1, c1, rfl, hk, rfl, hmk, hst⟩ := hrel
    by_cases hlt : k < 16
    · have d1 : (0 : Int) ≤ (k : Int) := by omega
      have d2 : (k : Int) < 16 := by omega
      have hb := hst.out.2.2
      have h1 := at_any A c n a HP.out.1 k wr ((HP.out.2.2.1.below hb).more hb.size)
      have h2 := at_any A' c' n' b HP.out.2.1 k wr ((HP.out.2.2.2.below hb).more hb.size)
      obtain ⟨x, hx⟩ : ∃ x, a.getD k 0 = x := ⟨_, rfl⟩
      obtain ⟨y, hy⟩ : ∃ y, b.getD k 0 = y := ⟨_, rfl⟩
      rw [hx] at h1
      rw [hy] at h2
      have H1 := Lib.hid h1
      have H2 := Lib.hid h2
      have HXY := Lib.hid (And.intro hx hy)
      have hsz := hb.size
      clear h1 h2 hx hy hb
      by_cases hxy : x = y
      · subst hxy
        have e1 : (x != x) = false := by simp
        have HF : Hid ((dk a b (k + 1)).length = m ∧ wr.ownsRow w.heap.size 3 1 (.slice A1 m c1) m (nums .i64 (dk a b (k + 1))) ∧ Below w.heap.size w wr) := Lib.hid (by
          rw [dk_no (HXY.out.1.trans HXY.out.2.symm)]
          exact hst.out)
        clear hst
        go_wp2_with fail
        refine H1.out.mono ?_
        rintro e w1 ⟨rfl, rfl⟩
        go_wp2_with fail
        refine H2.out.mono ?_
        rintro e w1 ⟨rfl, rfl⟩
        go_wp2_with fail
        go_roundw
        case rel => exact ⟨k + 1, m, A1, c1, by go_num, by omega, rfl, by omega, HF⟩
        case measure => simp only [intOf]; omega
      · have e1 : (x != y) = true := by simpa using hxy
        have HN : Hid (dk a b (k + 1) = dk a b k ++ [(k : Int)]) := Lib.hid (dk_yes (by rw [HXY.out.1, HXY.out.2]; exact hxy))
        have ho := hst.out.2.1
        have HST := Lib.hid hst.out
        clear hst hxy
        go_wp2_with fail
        refine H1.out.mono ?_
        rintro e w1 ⟨rfl, rfl⟩
        go_wp2_with fail
        refine H2.out.mono ?_
        rintro e w1 ⟨rfl, rfl⟩
        go_wp2_with (at_builtin; refine wpList_append_one _ rfl _ _ 23 rfl w.heap.size 3 i0 _ 8 Tryz.underlying23 hi0 hz0 hz1 hz2 rfl _ m (nums .i64 (dk a b k)) rfl ho (.int .i64 (k : Int)) 1 rfl rfl (by omega) (by omega) hsz ?_; intro v2 w2 o2 g2 at2; obtain ⟨A2, c2, rfl⟩ := own_form o2)
        have HF : Hid ((dk a b (k + 1)).length = m + 1 ∧ w2.ownsRow w.heap.size 3 1 (.slice A2 (m + 1) c2) (m + 1) (nums .i64 (dk a b (k + 1))) ∧ Below w.heap.size w w2) := Lib.hid (by
          rw [HN.out]
          exact ⟨by simp [HST.out.1], by rw [show nums .i64 (dk a b k ++ [(k : Int)]) = nums .i64 (dk a b k) ++ [.int .i64 (k : Int)] by simp [nums]]; exact o2, HST.out.2.2.grown g2 hsz (fun j hj => (ho.lt j hj).1)⟩)
        clear o2 g2 at2 ho
        go_roundw
        case rel => exact ⟨k + 1, m + 1, A2, c2, by go_num, by omega, rfl, by omega, HF⟩
        case measure => simp only [intOf]; omega
    · have hk16 : k = 16 := by omega
      subst hk16
      rw [dk_full] at hst
      go_wp2_with fail
      go_ret
      exact ⟨A1, m, c1, rfl, Lib.hid ⟨hst.out.1, (own_low hst.out.2.1).1, hst.out.2.1⟩, hst.out.2.2⟩
end Tree
end Go.Proofs.YtbaclinjimfncaaGreat
