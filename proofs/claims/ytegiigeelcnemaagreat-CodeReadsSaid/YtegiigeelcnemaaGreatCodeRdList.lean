/-
  The reader of layer 6: lists of versions, of records, of numbers.
-/
import Derived.Test.YtegiigeelcnemaaGreatCodeRdVer
namespace Go.Proofs.YtegiigeelcnemaaGreat
namespace Code
open Go.RowKit Num Span Vers
attribute [local go_sem ↓] Go.wp_at_zero Go.wp_at_succ

/-- Numbers of the call's own. -/
def nsV (t : TypeId) (k : IntKind) (B : Nat) (l : List Int) (v : Value) (w' : World) : Prop := ∃ A' c', v = .slice A' l.length c' ∧ w'.ownsRow B t 1 (.slice A' l.length c') l.length (nums k l)
theorem nums_snoc (k : IntKind) (l : List Int) (x : Int) : nums k (l ++ [x]) = nums k l ++ [.int k x] := by simp [nums]
theorem numP_goes {zs : List Int} (hby : ∀ z ∈ zs, 0 ≤ z ∧ z ≤ 255) {x : Int} {p q : Nat} (hp : p ≤ zs.length) (h : numP zs p = some (x, q)) : p < q ∧ q ≤ zs.length := by
  obtain ⟨a1, a2, a3, a4⟩ := numP_ok hby hp h
  have := std_le a1
  have := putL_len x
  omega
theorem upP_goes {zs : List Int} {m : Int} (hby : ∀ z ∈ zs, 0 ≤ z ∧ z ≤ 255) {x : Int} {p q : Nat} (hp : p ≤ zs.length) (h : upP m zs p = some (x, q)) : p < q ∧ q ≤ zs.length := by
  obtain ⟨a1, a2, a3, a4, a5⟩ := upP_ok hby hp h
  have := std_le a1
  have := putL_len x
  omega
theorem hshP_goes {zs : List Int} (hby : ∀ z ∈ zs, 0 ≤ z ∧ z ≤ 255) {x : Int} {p q : Nat} (hp : p ≤ zs.length) (h : hshP zs p = some (x, q)) : p < q ∧ q ≤ zs.length := (hshP_ok hby x p q hp h).1

theorem info_rnums : ∃ i, Tryz.prog.info? 2 = some i ∧ i.zero = some (.int .i64 0) ∧ i.size = 1 ∧ i.bytes = 8 := by
  have h : (Tryz.prog.info? 2).map (fun i => (i.zero, i.size, i.bytes)) = some (some (.int .i64 0), 1, 8) := by kernel_rfl
  obtain ⟨i, h1, h2⟩ := Option.map_eq_some_iff.1 h
  simp only [Prod.mk.injEq] at h2
  exact ⟨i, h1, h2.1, h2.2.1, h2.2.2⟩
set_option maxRecDepth 100000 in
theorem rnums_any (g : Nat) (A : Option Addr) (c n p : Nat) (zs : List Int) (w : World) (hs : Src g A c n zs w) (hr : Rd g A c n p w) (hp : p ≤ n) :
    Calls Tryz.prog 98 #[.pointer (some ⟨g, 0, none⟩), .func (.func 96) #[.pointer (some ⟨g, 0, none⟩)] #[]] w (Took g A c n w (seqP (numP zs) zs p) (nsV 2 .i64 w.heap.size)) := by
  obtain ⟨info, hi, hz, hsize, hbyt⟩ := info_rnums
  have hlt := hr.lt
  have hby := hs.2.1
  have hn := hs.2.2.1
  have hbig := hs.2.2.2.2
  have h1 := rnum_any g A c n p zs w hs hr hp
  rcases hP1 : numP zs p with _ | ⟨N, p1⟩
  · have hU : seqP (numP zs) zs p = none := by unfold seqP; rw [hP1]
    rw [hU]
    rw [hP1] at h1
    have H1 := Lib.hid h1
    clear h1 hP1 hU hs hr hby
    go_enter Tryz.func98, Tryz.ntmps98
    go_wp2_with fail
    refine H1.out.mono ?_
    intro e w1 hT
    obtain ⟨hg, rfl⟩ := hT.none
    exact ⟨rfl, took_none hg⟩
  · have hU : seqP (numP zs) zs p = listP (numP zs) N.toNat p1 := by unfold seqP; rw [hP1]
    rw [hU]
    rw [hP1] at h1
    obtain ⟨a1, a2, a3, a4⟩ := numP_ok hby (by omega) hP1
    have hp1 := std_le a1
    obtain ⟨M, rfl⟩ := Int.eq_ofNat_of_zero_le a3
    rw [Int.toNat_natCast]
    have H1 := Lib.hid h1
    have HS := Lib.hid (And.intro hs hby)
    clear h1 hP1 hU hs hr hby a1
    go_enter Tryz.func98, Tryz.ntmps98
    go_wp2_with fail
    refine H1.out.mono ?_
    intro e w1 hT
    obtain ⟨v, rfl, hr1, rfl, hg1⟩ := hT.some
    have hs1 := HS.out.1.kept hg1 hlt
    have hby := HS.out.2
    have hsz1 := hg1.size
    have HX := Lib.hid (And.intro hr1 hg1)
    clear hT hr1 hs1 hby hg1 H1
    go_wp2_with fail
    go_loopw [5, 8] (fun v q wr => ∃ (k : Nat) (l : List Int) (r : Nat), q = .int .i64 k ∧ Taking (numP zs) M p1 k l r ∧ r ≤ n ∧ wr.ownsRow w.heap.size 2 1 v l.length (nums .i64 l) ∧ Rd g A c n r wr ∧ w.grownBy wr (some g)) (fun _ q _ => M - (intOf q).toNat)
    case atStart => exact ⟨0, [], p1, rfl, taking_start _ _ _, by omega, World.ownsRow_nil _ _ _ _, HX.out.1, HX.out.2⟩
    case round =>
      obtain ⟨k, l, r, rfl, hT, hrn, ho, hrd, hg⟩ := hrel
      obtain ⟨hlk, hkM, hkr, _⟩ := id hT
      have hsz := hg.size
      have hlt2 := hrd.lt
      by_cases hlt3 : k < M
      · have hsw : Src g A c n zs wr := HS.out.1.kept hg hlt
        have h2 := rnum_any g A c n r zs wr hsw hrd hrn
        rcases hPx : numP zs r with _ | ⟨x, q⟩
        · have hU := taking_none hT hlt3 hPx
          rw [hPx] at h2
          have H2 := Lib.hid h2
          have HU := Lib.hid (And.intro hU hg)
          clear h2 hPx hU hT ho hrd hg hsw
          go_wp2_with fail
          refine H2.out.mono ?_
          intro e w2 hT
          obtain ⟨hg2, rfl⟩ := hT.none
          refine ⟨rfl, ?_⟩
          rw [HU.out.1]
          exact took_none (grown_trans HU.out.2 hg2)
        · rw [hPx] at h2
          obtain ⟨hqr, hqn⟩ := numP_goes HS.out.2 (by omega) hPx
          have hT2 := taking_more hT hlt3 hPx hqr
          have H2 := Lib.hid h2
          have HU := Lib.hid (And.intro hT2 (And.intro ho hg))
          clear h2 hPx hT2 hT ho hrd hg hsw
          go_wp2_with fail
          refine H2.out.mono ?_
          intro e w2 hT
          obtain ⟨v, rfl, hr2, rfl, hg2⟩ := hT.some
          obtain ⟨hT2, ho, hg⟩ := HU.out
          have ho2 := ho.kept hg2 (own_apart ho hlt)
          have hg3 := grown_trans hg hg2
          have hsz3 := hg3.size
          have HF := Lib.hid (And.intro hT2 (And.intro ho2 (And.intro hg3 hr2)))
          clear hT hT2 ho ho2 hg hg2 hg3 hr2 H2 HU
          go_wp2_with (at_builtin; refine wpList_append_one _ rfl _ _ _ rfl w.heap.size 2 info _ 8 Tryz.underlying41 hi hz hsize hbyt rfl _ l.length (nums .i64 l) rfl HF.out.2.1 (.int .i64 x) 1 rfl rfl (by omega) (by omega) hsz3 ?_; intro v' w' o' g' _)
          have hgw := grown_own HF.out.2.2.1 g' (fun j hj => (HF.out.2.1.lt j hj).1)
          have hrw : Rd g A c n q w' := HF.out.2.2.2.kept g' (own_far HF.out.2.1 hlt)
          have hoo : w'.ownsRow w.heap.size 2 1 v' (l ++ [x]).length (nums .i64 (l ++ [x])) := by rw [nums_snoc]; simpa using o'
          have HE := Lib.hid (And.intro HF.out.1 (And.intro hoo (And.intro hgw hrw)))
          clear HF o' g' hgw hrw hoo
          go_wp2_with fail
          go_roundw
          case rel => exact ⟨k + 1, l ++ [x], q, rfl, HE.out.1, by omega, HE.out.2.1, HE.out.2.2.2, HE.out.2.2.1⟩
          case measure => simp only [intOf]; omega
      · have hk : k = M := by omega
        subst hk
        have hE := taking_end hT
        obtain ⟨A', c', rfl⟩ := own_form ho
        have HE := Lib.hid (And.intro hE (And.intro ho (And.intro hrd hg)))
        clear hE ho hrd hg hT hlt3
        go_wp2_with fail
        go_ret
        rw [HE.out.1]
        exact took_some HE.out.2.2.2 HE.out.2.2.1 ⟨A', c', rfl, HE.out.2.1⟩

theorem info_rwholes : ∃ i, Tryz.prog.info? 3 = some i ∧ i.zero = some (.int .i64 0) ∧ i.size = 1 ∧ i.bytes = 8 := by
  have h : (Tryz.prog.info? 3).map (fun i => (i.zero, i.size, i.bytes)) = some (some (.int .i64 0), 1, 8) := by kernel_rfl
  obtain ⟨i, h1, h2⟩ := Option.map_eq_some_iff.1 h
  simp only [Prod.mk.injEq] at h2
  exact ⟨i, h1, h2.1, h2.2.1, h2.2.2⟩
set_option maxRecDepth 100000 in
theorem rwholes_any (g : Nat) (A : Option Addr) (c n p : Nat) (zs : List Int) (w : World) (hs : Src g A c n zs w) (hr : Rd g A c n p w) (hp : p ≤ n) :
    Calls Tryz.prog 99 #[.pointer (some ⟨g, 0, none⟩), .func (.func 94) #[.pointer (some ⟨g, 0, none⟩)] #[]] w (Took g A c n w (seqP (upP 2147483647 zs) zs p) (nsV 3 .i64 w.heap.size)) := by
  obtain ⟨info, hi, hz, hsize, hbyt⟩ := info_rwholes
  have hlt := hr.lt
  have hby := hs.2.1
  have hn := hs.2.2.1
  have hbig := hs.2.2.2.2
  have h1 := rnum_any g A c n p zs w hs hr hp
  rcases hP1 : numP zs p with _ | ⟨N, p1⟩
  · have hU : seqP (upP 2147483647 zs) zs p = none := by unfold seqP; rw [hP1]
    rw [hU]
    rw [hP1] at h1
    have H1 := Lib.hid h1
    clear h1 hP1 hU hs hr hby
    go_enter Tryz.func99, Tryz.ntmps99
    go_wp2_with fail
    refine H1.out.mono ?_
    intro e w1 hT
    obtain ⟨hg, rfl⟩ := hT.none
    exact ⟨rfl, took_none hg⟩
  · have hU : seqP (upP 2147483647 zs) zs p = listP (upP 2147483647 zs) N.toNat p1 := by unfold seqP; rw [hP1]
    rw [hU]
    rw [hP1] at h1
    obtain ⟨a1, a2, a3, a4⟩ := numP_ok hby (by omega) hP1
    have hp1 := std_le a1
    obtain ⟨M, rfl⟩ := Int.eq_ofNat_of_zero_le a3
    rw [Int.toNat_natCast]
    have H1 := Lib.hid h1
    have HS := Lib.hid (And.intro hs hby)
    clear h1 hP1 hU hs hr hby a1
    go_enter Tryz.func99, Tryz.ntmps99
    go_wp2_with fail
    refine H1.out.mono ?_
    intro e w1 hT
    obtain ⟨v, rfl, hr1, rfl, hg1⟩ := hT.some
    have hs1 := HS.out.1.kept hg1 hlt
    have hby := HS.out.2
    have hsz1 := hg1.size
    have HX := Lib.hid (And.intro hr1 hg1)
    clear hT hr1 hs1 hby hg1 H1
    go_wp2_with fail
    go_loopw [5, 8] (fun v q wr => ∃ (k : Nat) (l : List Int) (r : Nat), q = .int .i64 k ∧ Taking (upP 2147483647 zs) M p1 k l r ∧ r ≤ n ∧ wr.ownsRow w.heap.size 3 1 v l.length (nums .i64 l) ∧ Rd g A c n r wr ∧ w.grownBy wr (some g)) (fun _ q _ => M - (intOf q).toNat)
    case atStart => exact ⟨0, [], p1, rfl, taking_start _ _ _, by omega, World.ownsRow_nil _ _ _ _, HX.out.1, HX.out.2⟩
    case round =>
      obtain ⟨k, l, r, rfl, hT, hrn, ho, hrd, hg⟩ := hrel
      obtain ⟨hlk, hkM, hkr, _⟩ := id hT
      have hsz := hg.size
      have hlt2 := hrd.lt
      by_cases hlt3 : k < M
      · have hsw : Src g A c n zs wr := HS.out.1.kept hg hlt
        have h2 := whole_any g A c n r zs wr hsw hrd hrn
        rcases hPx : upP 2147483647 zs r with _ | ⟨x, q⟩
        · have hU := taking_none hT hlt3 hPx
          rw [hPx] at h2
          have H2 := Lib.hid h2
          have HU := Lib.hid (And.intro hU hg)
          clear h2 hPx hU hT ho hrd hg hsw
          go_wp2_with fail
          refine H2.out.mono ?_
          intro e w2 hT
          obtain ⟨hg2, rfl⟩ := hT.none
          refine ⟨rfl, ?_⟩
          rw [HU.out.1]
          exact took_none (grown_trans HU.out.2 hg2)
        · rw [hPx] at h2
          obtain ⟨hqr, hqn⟩ := upP_goes HS.out.2 (by omega) hPx
          have hT2 := taking_more hT hlt3 hPx hqr
          have H2 := Lib.hid h2
          have HU := Lib.hid (And.intro hT2 (And.intro ho hg))
          clear h2 hPx hT2 hT ho hrd hg hsw
          go_wp2_with fail
          refine H2.out.mono ?_
          intro e w2 hT
          obtain ⟨v, rfl, hr2, rfl, hg2⟩ := hT.some
          obtain ⟨hT2, ho, hg⟩ := HU.out
          have ho2 := ho.kept hg2 (own_apart ho hlt)
          have hg3 := grown_trans hg hg2
          have hsz3 := hg3.size
          have HF := Lib.hid (And.intro hT2 (And.intro ho2 (And.intro hg3 hr2)))
          clear hT hT2 ho ho2 hg hg2 hg3 hr2 H2 HU
          go_wp2_with (at_builtin; refine wpList_append_one _ rfl _ _ _ rfl w.heap.size 3 info _ 8 Tryz.underlying42 hi hz hsize hbyt rfl _ l.length (nums .i64 l) rfl HF.out.2.1 (.int .i64 x) 1 rfl rfl (by omega) (by omega) hsz3 ?_; intro v' w' o' g' _)
          have hgw := grown_own HF.out.2.2.1 g' (fun j hj => (HF.out.2.1.lt j hj).1)
          have hrw : Rd g A c n q w' := HF.out.2.2.2.kept g' (own_far HF.out.2.1 hlt)
          have hoo : w'.ownsRow w.heap.size 3 1 v' (l ++ [x]).length (nums .i64 (l ++ [x])) := by rw [nums_snoc]; simpa using o'
          have HE := Lib.hid (And.intro HF.out.1 (And.intro hoo (And.intro hgw hrw)))
          clear HF o' g' hgw hrw hoo
          go_wp2_with fail
          go_roundw
          case rel => exact ⟨k + 1, l ++ [x], q, rfl, HE.out.1, by omega, HE.out.2.1, HE.out.2.2.2, HE.out.2.2.1⟩
          case measure => simp only [intOf]; omega
      · have hk : k = M := by omega
        subst hk
        have hE := taking_end hT
        obtain ⟨A', c', rfl⟩ := own_form ho
        have HE := Lib.hid (And.intro hE (And.intro ho (And.intro hrd hg)))
        clear hE ho hrd hg hT hlt3
        go_wp2_with fail
        go_ret
        rw [HE.out.1]
        exact took_some HE.out.2.2.2 HE.out.2.2.1 ⟨A', c', rfl, HE.out.2.1⟩

theorem info_rhashes : ∃ i, Tryz.prog.info? 95 = some i ∧ i.zero = some (.int .u64 0) ∧ i.size = 1 ∧ i.bytes = 8 := by
  have h : (Tryz.prog.info? 95).map (fun i => (i.zero, i.size, i.bytes)) = some (some (.int .u64 0), 1, 8) := by kernel_rfl
  obtain ⟨i, h1, h2⟩ := Option.map_eq_some_iff.1 h
  simp only [Prod.mk.injEq] at h2
  exact ⟨i, h1, h2.1, h2.2.1, h2.2.2⟩
set_option maxRecDepth 100000 in
theorem rhashes_any (g : Nat) (A : Option Addr) (c n p : Nat) (zs : List Int) (w : World) (hs : Src g A c n zs w) (hr : Rd g A c n p w) (hp : p ≤ n) :
    Calls Tryz.prog 100 #[.pointer (some ⟨g, 0, none⟩), .func (.func 101) #[.pointer (some ⟨g, 0, none⟩)] #[]] w (Took g A c n w (seqP (hshP zs) zs p) (nsV 95 .u64 w.heap.size)) := by
  obtain ⟨info, hi, hz, hsize, hbyt⟩ := info_rhashes
  have hlt := hr.lt
  have hby := hs.2.1
  have hn := hs.2.2.1
  have hbig := hs.2.2.2.2
  have h1 := rnum_any g A c n p zs w hs hr hp
  rcases hP1 : numP zs p with _ | ⟨N, p1⟩
  · have hU : seqP (hshP zs) zs p = none := by unfold seqP; rw [hP1]
    rw [hU]
    rw [hP1] at h1
    have H1 := Lib.hid h1
    clear h1 hP1 hU hs hr hby
    go_enter Tryz.func100, Tryz.ntmps100
    go_wp2_with fail
    refine H1.out.mono ?_
    intro e w1 hT
    obtain ⟨hg, rfl⟩ := hT.none
    exact ⟨rfl, took_none hg⟩
  · have hU : seqP (hshP zs) zs p = listP (hshP zs) N.toNat p1 := by unfold seqP; rw [hP1]
    rw [hU]
    rw [hP1] at h1
    obtain ⟨a1, a2, a3, a4⟩ := numP_ok hby (by omega) hP1
    have hp1 := std_le a1
    obtain ⟨M, rfl⟩ := Int.eq_ofNat_of_zero_le a3
    rw [Int.toNat_natCast]
    have H1 := Lib.hid h1
    have HS := Lib.hid (And.intro hs hby)
    clear h1 hP1 hU hs hr hby a1
    go_enter Tryz.func100, Tryz.ntmps100
    go_wp2_with fail
    refine H1.out.mono ?_
    intro e w1 hT
    obtain ⟨v, rfl, hr1, rfl, hg1⟩ := hT.some
    have hs1 := HS.out.1.kept hg1 hlt
    have hby := HS.out.2
    have hsz1 := hg1.size
    have HX := Lib.hid (And.intro hr1 hg1)
    clear hT hr1 hs1 hby hg1 H1
    go_wp2_with fail
    go_loopw [5, 8] (fun v q wr => ∃ (k : Nat) (l : List Int) (r : Nat), q = .int .i64 k ∧ Taking (hshP zs) M p1 k l r ∧ r ≤ n ∧ wr.ownsRow w.heap.size 95 1 v l.length (nums .u64 l) ∧ Rd g A c n r wr ∧ w.grownBy wr (some g)) (fun _ q _ => M - (intOf q).toNat)
    case atStart => exact ⟨0, [], p1, rfl, taking_start _ _ _, by omega, World.ownsRow_nil _ _ _ _, HX.out.1, HX.out.2⟩
    case round =>
      obtain ⟨k, l, r, rfl, hT, hrn, ho, hrd, hg⟩ := hrel
      obtain ⟨hlk, hkM, hkr, _⟩ := id hT
      have hsz := hg.size
      have hlt2 := hrd.lt
      by_cases hlt3 : k < M
      · have hsw : Src g A c n zs wr := HS.out.1.kept hg hlt
        have h2 := rhash_any g A c n r zs wr hsw hrd hrn
        rcases hPx : hshP zs r with _ | ⟨x, q⟩
        · have hU := taking_none hT hlt3 hPx
          rw [hPx] at h2
          have H2 := Lib.hid h2
          have HU := Lib.hid (And.intro hU hg)
          clear h2 hPx hU hT ho hrd hg hsw
          go_wp2_with fail
          refine H2.out.mono ?_
          intro e w2 hT
          obtain ⟨hg2, rfl⟩ := hT.none
          refine ⟨rfl, ?_⟩
          rw [HU.out.1]
          exact took_none (grown_trans HU.out.2 hg2)
        · rw [hPx] at h2
          obtain ⟨hqr, hqn⟩ := hshP_goes HS.out.2 (by omega) hPx
          have hT2 := taking_more hT hlt3 hPx hqr
          have H2 := Lib.hid h2
          have HU := Lib.hid (And.intro hT2 (And.intro ho hg))
          clear h2 hPx hT2 hT ho hrd hg hsw
          go_wp2_with fail
          refine H2.out.mono ?_
          intro e w2 hT
          obtain ⟨v, rfl, hr2, rfl, hg2⟩ := hT.some
          obtain ⟨hT2, ho, hg⟩ := HU.out
          have ho2 := ho.kept hg2 (own_apart ho hlt)
          have hg3 := grown_trans hg hg2
          have hsz3 := hg3.size
          have HF := Lib.hid (And.intro hT2 (And.intro ho2 (And.intro hg3 hr2)))
          clear hT hT2 ho ho2 hg hg2 hg3 hr2 H2 HU
          go_wp2_with (at_builtin; refine wpList_append_one _ rfl _ _ _ rfl w.heap.size 95 info _ 8 Tryz.underlying43 hi hz hsize hbyt rfl _ l.length (nums .u64 l) rfl HF.out.2.1 (.int .u64 x) 1 rfl rfl (by omega) (by omega) hsz3 ?_; intro v' w' o' g' _)
          have hgw := grown_own HF.out.2.2.1 g' (fun j hj => (HF.out.2.1.lt j hj).1)
          have hrw : Rd g A c n q w' := HF.out.2.2.2.kept g' (own_far HF.out.2.1 hlt)
          have hoo : w'.ownsRow w.heap.size 95 1 v' (l ++ [x]).length (nums .u64 (l ++ [x])) := by rw [nums_snoc]; simpa using o'
          have HE := Lib.hid (And.intro HF.out.1 (And.intro hoo (And.intro hgw hrw)))
          clear HF o' g' hgw hrw hoo
          go_wp2_with fail
          go_roundw
          case rel => exact ⟨k + 1, l ++ [x], q, rfl, HE.out.1, by omega, HE.out.2.1, HE.out.2.2.2, HE.out.2.2.1⟩
          case measure => simp only [intOf]; omega
      · have hk : k = M := by omega
        subst hk
        have hE := taking_end hT
        obtain ⟨A', c', rfl⟩ := own_form ho
        have HE := Lib.hid (And.intro hE (And.intro ho (And.intro hrd hg)))
        clear hE ho hrd hg hT hlt3
        go_wp2_with fail
        go_ret
        rw [HE.out.1]
        exact took_some HE.out.2.2.2 HE.out.2.2.1 ⟨A', c', rfl, HE.out.2.1⟩

/-- Versions of the call's own. -/
def vsV (B : Nat) (l : List Vr) (v : Value) (w' : World) : Prop := ∃ A' c' ps, v = .slice A' l.length c' ∧ ps.map Prod.fst = l ∧ l.length ≤ c' ∧ RowV B w'.heap.size w' v ps
theorem verP_goes {zs : List Int} (hby : ∀ z ∈ zs, 0 ≤ z ∧ z ≤ 255) {x : Vr} {p q : Nat} (hp : p ≤ zs.length) (h : verP zs p = some (x, q)) : p < q ∧ q ≤ zs.length := (verP_ok hby x p q hp h).1
theorem some_info {t : TypeId} {z : Value} {s b : Nat} (h : (Tryz.prog.info? t).map (fun i => (i.zero, i.size, i.bytes)) = some (some z, s, b)) : ∃ i, Tryz.prog.info? t = some i ∧ i.zero = some z ∧ i.size = s ∧ i.bytes = b := by
  obtain ⟨i, h1, h2⟩ := Option.map_eq_some_iff.1 h
  simp only [Prod.mk.injEq] at h2
  exact ⟨i, h1, h2.1, h2.2.1, h2.2.2⟩
theorem own_form_le {w : World} {base : Nat} {e : TypeId} {size : Nat} {v : Value} {n : Nat} {xs : List Value} (h : w.ownsRow base e size v n xs) : ∃ A c, v = .slice A n c ∧ n ≤ c := by
  rcases h.2 with ⟨rfl, rfl⟩ | ⟨g, cap, cur, rfl, _, _, hn, _⟩
  · exact ⟨none, 0, rfl, Nat.le_refl _⟩
  · exact ⟨_, _, rfl, hn⟩
set_option maxRecDepth 100000 in
theorem rvers_any (g : Nat) (A : Option Addr) (c n p : Nat) (zs : List Int) (w : World) (hs : Src g A c n zs w) (hr : Rd g A c n p w) (hp : p ≤ n) :
    Calls Tryz.prog 67 #[.pointer (some ⟨g, 0, none⟩), .func (.func 68) #[.pointer (some ⟨g, 0, none⟩)] #[]] w (Took g A c n w (seqP (verP zs) zs p) (vsV w.heap.size)) := by
  obtain ⟨info, hi, hz, hsize, hbyt⟩ := some_info info_ver
  have hlt := hr.lt
  have hby := hs.2.1
  have hn := hs.2.2.1
  have hbig := hs.2.2.2.2
  have h1 := rnum_any g A c n p zs w hs hr hp
  rcases hP1 : numP zs p with _ | ⟨N, p1⟩
  · have hU : seqP (verP zs) zs p = none := by unfold seqP; rw [hP1]
    rw [hU]
    rw [hP1] at h1
    have H1 := Lib.hid h1
    clear h1 hP1 hU hs hr hby
    go_enter Tryz.func67, Tryz.ntmps67
    go_wp2_with fail
    refine H1.out.mono ?_
    intro e w1 hT
    obtain ⟨hg, rfl⟩ := hT.none
    exact ⟨rfl, took_none hg⟩
  · have hU : seqP (verP zs) zs p = listP (verP zs) N.toNat p1 := by unfold seqP; rw [hP1]
    rw [hU]
    rw [hP1] at h1
    obtain ⟨a1, a2, a3, a4⟩ := numP_ok hby (by omega) hP1
    have hp1 := std_le a1
    obtain ⟨M, rfl⟩ := Int.eq_ofNat_of_zero_le a3
    rw [Int.toNat_natCast]
    have H1 := Lib.hid h1
    have HS := Lib.hid (And.intro hs hby)
    clear h1 hP1 hU hs hr hby a1
    go_enter Tryz.func67, Tryz.ntmps67
    go_wp2_with fail
    refine H1.out.mono ?_
    intro e w1 hT
    obtain ⟨v, rfl, hr1, rfl, hg1⟩ := hT.some
    have hs1 := HS.out.1.kept hg1 hlt
    have hby := HS.out.2
    have hsz1 := hg1.size
    have HX := Lib.hid (And.intro hr1 hg1)
    clear hT hr1 hs1 hby hg1 H1
    go_wp2_with fail
    go_loopw [5, 8] (fun v q wr => ∃ (k : Nat) (ps : List Pv) (r : Nat), q = .int .i64 k ∧ Taking (verP zs) M p1 k (ps.map Prod.fst) r ∧ r ≤ n ∧ RowV w.heap.size wr.heap.size wr v ps ∧ Rd g A c n r wr ∧ w.grownBy wr (some g)) (fun _ q _ => M - (intOf q).toNat)
    case atStart => exact ⟨0, [], p1, rfl, taking_start _ _ _, by omega, rowV_nil _ _ _, HX.out.1, HX.out.2⟩
    case round =>
      obtain ⟨k, ps, r, rfl, hT, hrn, ho, hrd, hg⟩ := hrel
      obtain ⟨hlk, hkM, hkr, _⟩ := id hT
      rw [List.length_map] at hlk
      have hsz := hg.size
      have hlt2 := hrd.lt
      by_cases hlt3 : k < M
      · have hsw : Src g A c n zs wr := HS.out.1.kept hg hlt
        have h2 := rver_any g A c n r zs wr hsw hrd hrn
        rcases hPx : verP zs r with _ | ⟨x, q⟩
        · have hU := taking_none hT hlt3 hPx
          rw [hPx] at h2
          have H2 := Lib.hid h2
          have HU := Lib.hid (And.intro hU hg)
          clear h2 hPx hU hT ho hrd hg hsw
          go_wp2_with fail
          refine H2.out.mono ?_
          intro e w2 hT
          obtain ⟨hg2, rfl⟩ := hT.none
          refine ⟨rfl, ?_⟩
          rw [HU.out.1]
          exact took_none (grown_trans HU.out.2 hg2)
        · rw [hPx] at h2
          obtain ⟨hqr, hqn⟩ := verP_goes HS.out.2 (by omega) hPx
          have hT2 := taking_more hT hlt3 hPx hqr
          have H2 := Lib.hid h2
          have HU := Lib.hid (And.intro hT2 (And.intro ho hg))
          clear h2 hPx hT2 hT ho hrd hg hsw
          go_wp2_with fail
          refine H2.out.mono ?_
          intro e w2 hT
          obtain ⟨v, rfl, hr2, ⟨A2, c2, hv, hvo⟩, hg2⟩ := hT.some
          obtain ⟨hT2, ho, hg⟩ := HU.out
          have ho2 := ho.1.kept hg2 (own_apart ho.1 hlt)
          have hg3 := grown_trans hg hg2
          have hsz3 := hg3.size
          obtain ⟨xs, xn, xp, xg, xv⟩ := x
          obtain ⟨m, hm⟩ : ∃ m, xp.length = m := ⟨_, rfl⟩
          have hv' : v = .agg #[.int .i64 xs, .int .i64 xn, .slice A2 m c2, .bool xg, .string xv] := by rw [hv, ← hm]; rfl
          have hadd := fun w' v' => ho.add (w1 := w2) (w2 := w') (v' := v') (p := (⟨xs, xn, xp, xg, xv⟩, A2, c2)) (fun j h1 h2 => hg2.block j h2 (by intro e; injection e with e; omega)) hg2.size hvo hsz
          have hoF := own_far ho.1 hlt
          have hoL := ho.1.lt
          subst hv'
          have HF := Lib.hid (And.intro hT2 (And.intro ho2 (And.intro hg3 (And.intro hr2 (And.intro hadd (And.intro hoF hoL))))))
          clear hT hT2 ho ho2 hg hg2 hg3 hr2 H2 HU hadd hoF hoL hv hvo
          go_wp2_with (at_builtin; refine wpList_append_v _ rfl _ _ _ rfl w.heap.size 105 info _ 64 Tryz.underlying22 hi hz hsize hbyt rfl _ ps.length ps rfl HF.out.2.1 (⟨xs, xn, xp, xg, xv⟩, A2, c2) m hm 1 rfl (by omega) (by omega) hsz3 ?_; intro v' w' o' g' hat)
          have hgw := grown_own HF.out.2.2.1 g' (fun j hj => (HF.out.2.2.2.2.2.2 j hj).1)
          have hrw : Rd g A c n q w' := HF.out.2.2.2.1.kept g' HF.out.2.2.2.2.2.1
          have hoo := HF.out.2.2.2.2.1 w' v' o' g' hat
          have HE := Lib.hid (And.intro HF.out.1 (And.intro hoo (And.intro hgw hrw)))
          clear HF o' g' hgw hrw hoo hat
          go_wp2_with fail
          go_roundw
          case rel => exact ⟨k + 1, ps ++ [(⟨xs, xn, xp, xg, xv⟩, A2, c2)], q, rfl, by rw [List.map_append]; exact HE.out.1, by omega, HE.out.2.1, HE.out.2.2.2, HE.out.2.2.1⟩
          case measure => simp only [intOf]; omega
      · have hk : k = M := by omega
        subst hk
        have hE := taking_end hT
        obtain ⟨A', c', rfl, hc'⟩ := own_form_le ho.1
        have HE := Lib.hid (And.intro hE (And.intro ho (And.intro hrd hg)))
        clear hE ho hrd hg hT hlt3
        go_wp2_with fail
        go_ret
        rw [HE.out.1]
        exact took_some HE.out.2.2.2 HE.out.2.2.1 ⟨A', c', ps, by rw [List.length_map]; rfl, rfl, by rw [List.length_map]; exact hc', HE.out.2.1⟩
end Code
end Go.Proofs.YtegiigeelcnemaaGreat
