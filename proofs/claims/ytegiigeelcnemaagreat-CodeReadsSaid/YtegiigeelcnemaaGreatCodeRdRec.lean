/-
  The reader of layer 6: records and lists of them.
-/
import Derived.Test.YtegiigeelcnemaaGreatCodeRdList
namespace Go.Proofs.YtegiigeelcnemaaGreat
namespace Code
open Go.RowKit Num Span Vers
attribute [local go_sem ↓] Go.wp_at_zero Go.wp_at_succ

/-- A record of the call's own. -/
def recV (B : Nat) (r : Rc) (v : Value) (w' : World) : Prop := ∃ A c, v = .agg #[.string r.1, .slice A r.2.length c] ∧ RecO w' B w'.heap.size (r, A, c)
theorem grown_keep {w w' : World} {g B : Nat} (h : w.grownBy w' (some g)) (hg : g < B) (k : Nat) (h1 : B ≤ k) (h2 : k < w.heap.size) : w'.heap[k]? = w.heap[k]? := h.block k h2 (by intro e; injection e with e; omega)

set_option maxRecDepth 100000 in
theorem rrec_any (g : Nat) (A : Option Addr) (c n p : Nat) (zs : List Int) (w : World) (hs : Src g A c n zs w) (hr : Rd g A c n p w) (hp : p ≤ n) :
    Calls Tryz.prog 25 #[.pointer (some ⟨g, 0, none⟩)] w (Took g A c n w (recP zs p) (recV w.heap.size)) := by
  have hlt := hr.lt
  obtain ⟨W, hW⟩ : ∃ W, w.alloc (.cells #[.string ⟨#[]⟩, .slice none 0 0] 24) = W := ⟨_, rfl⟩
  have hgW : w.grownBy W (some g) := by rw [← hW]; exact World.grownBy_alloc _ _ _
  have hsW := hs.kept hgW hlt
  have hrW : Rd g A c n p W := by rw [← hW]; exact hr.alloc _
  have hB : Bn w.heap.size 24 [.string ⟨#[]⟩, .slice none 0 0] W := by rw [← hW]; exact heap_alloc_new _ _
  have hBg : w.heap.size ≠ g := by omega
  have hby := hs.2.1
  have hn := hs.2.2.1
  have hbig := hs.2.2.2.2
  obtain ⟨B, hBe⟩ : ∃ B, w.heap.size = B := ⟨_, rfl⟩
  rw [hBe] at hB hBg
  have hne : some B ≠ some g := by simpa using hBg
  have hltW := hrW.lt
  have hBW := hB.lt
  have h1 := rtext_any g A c n p zs 32 (by omega) W hsW hrW hp
  have hmf : ∀ (fn : Fn) (first cap : Array Value) (w : World), (Instr.makeFunc fn first cap).run Tryz.prog w = .ok (.func fn first cap) w := fun _ _ _ _ => rfl
  rcases hP1 : textP 32 zs p with _ | ⟨s, q⟩
  · have hU : recP zs p = none := by unfold recP; rw [hP1]
    rw [hU]
    rw [hP1] at h1
    have H1 := Lib.hid h1
    have HG := Lib.hid hgW
    clear h1 hP1 hU hs hr hsW hrW hby hgW hB
    go_enter Tryz.func25, Tryz.ntmps25
    go_wp2_with fail
    refine H1.out.mono ?_
    intro e w1 hT
    obtain ⟨hg, rfl⟩ := hT.none
    exact ⟨rfl, took_none (grown_trans HG.out hg)⟩
  · rw [hP1] at h1
    obtain ⟨a1, a2, a3, a4⟩ := textP_ok hby (by omega) hP1
    have hq := std_le a1
    have H1 := Lib.hid h1
    have HS := Lib.hid (And.intro hsW (And.intro hB (And.intro hP1 (And.intro hby (And.intro hgW hn)))))
    have hqn : q ≤ n := by omega
    clear h1 hP1 hs hr hsW hrW hby hgW hB a1 a2 a4 hq
    go_enter Tryz.func25, Tryz.ntmps25
    go_wp2_with fail
    refine H1.out.mono ?_
    intro e w1 hT
    obtain ⟨v, rfl, hr1, rfl, hg1⟩ := hT.some
    obtain ⟨hsW, hB, hP1, hby, hgW, hn⟩ := HS.out
    have hs1 := hsW.kept hg1 hltW
    have hB1 := hB.kept hg1 hne
    have hgW1 := grown_trans hgW hg1
    have hM : B + 1 ≤ w1.heap.size := hB1.lt
    have h2 := rvers_any g A c n q zs w1 hs1 hr1 hqn
    rcases hP2 : seqP (verP zs) zs q with _ | ⟨l, r⟩
    · have hU : recP zs p = none := by unfold recP; simp only [hP1, hP2]
      rw [hP2] at h2
      have H2 := Lib.hid h2
      have HU := Lib.hid (And.intro hU hgW1)
      clear h2 hP2 hP1 hU hr1 hs1 hB1 hgW1 hB hsW hby hgW hT hg1 HS H1
      go_wp2_with fail
      refine H2.out.mono ?_
      intro e w2 hT
      obtain ⟨hg, rfl⟩ := hT.none
      refine ⟨rfl, ?_⟩
      rw [HU.out.1]
      exact took_none (grown_trans HU.out.2 hg)
    · have hU : recP zs p = some ((strOfNums s, l), r) := by unfold recP; simp only [hP1, hP2]
      rw [hP2] at h2
      have hlt1 := hr1.lt
      have H2 := Lib.hid h2
      have HS := Lib.hid (And.intro hB1 (And.intro hgW1 hU))
      clear h2 hP2 hP1 hU hr1 hs1 hB1 hgW1 hB hsW hby hgW hT hg1 H1
      go_wp2_with fail
      refine H2.out.mono ?_
      intro e w2 hT
      obtain ⟨v, rfl, hr2, ⟨A', c', ps, rfl, hps, hlc, hrow⟩, hg2⟩ := hT.some
      obtain ⟨hB1, hgW1, hU⟩ := HS.out
      have hB2 := hB1.kept hg2 hne
      have hgW2 := grown_trans hgW1 hg2
      obtain ⟨m, hm⟩ : ∃ m, l.length = m := ⟨_, rfl⟩
      rw [hm] at hlc hrow
      have k0 := hB2.cell 0
      have k1 := hB2.cell 1
      simp only [List.getElem?_cons_zero, List.getElem?_cons_succ] at k0 k1
      have f0 := hB2.frozen 0
      have f1 := hB2.frozen 1
      have hset := setCells_all (old := [.string ⟨#[]⟩, .slice none 0 0]) (vs := [.string (strOfNums s), .slice A' m c']) rfl hB2
      have hsg := setCells_grown B [.string (strOfNums s), .slice A' m c'] 0 w2
      obtain ⟨X, hX⟩ : ∃ X, w2.setCells B 0 [.string (strOfNums s), .slice A' m c'] = X := ⟨_, rfl⟩
      rw [hX] at hset hsg
      have j0 := hset.cell 0
      have j1 := hset.cell 1
      simp only [List.getElem?_cons_zero, List.getElem?_cons_succ] at j0 j1
      have hrX := ((hrow.keep (grown_keep hsg (by omega))).more hsg.size).less (show B ≤ w1.heap.size by omega)
      have hX' : (w2.setCell ⟨B, 0, none⟩ (.string (strOfNums s))).setCell ⟨B, 1, none⟩ (.slice A' m c') = X := hX
      have HF := Lib.hid (And.intro hr2 (And.intro hgW2 (And.intro hU (And.intro hsg (And.intro hrX hps)))))
      clear hr2 hgW2 hU hB1 hgW1 hT hg2 hB2 HS H2 hset hsg hX hrow hrX hps
      rw [hm]
      go_wp2_with fail
      have hG : w.grownBy X (some g) := grown_fresh HF.out.2.1 HF.out.2.2.2.1 (by omega)
      have hR : Rd g A c n r X := HF.out.1.kept HF.out.2.2.2.1 (Ne.symm hne)
      have HX := Lib.hid (And.intro hG hR)
      clear hG hR hX'
      refine bodyPost_ret (v := .agg #[.string (strOfNums s), .slice A' m c']) ?_ rfl ?_
      · rw [results_cell1 rfl]
        go_simp
      · rw [HF.out.2.2.1, hBe]
        exact took_some HX.out.1 HX.out.2 ⟨A', c', by rw [hm], by simp only; omega, ps, HF.out.2.2.2.2.2, by simp only [hm]; exact HF.out.2.2.2.2.1⟩

/-- Records of the call's own. -/
def rsV (B : Nat) (l : List Rc) (v : Value) (w' : World) : Prop := ∃ A' c' ps, v = .slice A' l.length c' ∧ ps.map Prod.fst = l ∧ l.length ≤ c' ∧ RowR B w'.heap.size w' v ps
theorem recP_goes {zs : List Int} (hby : ∀ z ∈ zs, 0 ≤ z ∧ z ≤ 255) {x : Rc} {p q : Nat} (hp : p ≤ zs.length) (h : recP zs p = some (x, q)) : p < q ∧ q ≤ zs.length := (recP_ok hby x p q hp h).1
set_option maxRecDepth 100000 in
theorem rrecs_any (g : Nat) (A : Option Addr) (c n p : Nat) (zs : List Int) (w : World) (hs : Src g A c n zs w) (hr : Rd g A c n p w) (hp : p ≤ n) :
    Calls Tryz.prog 97 #[.pointer (some ⟨g, 0, none⟩), .func (.func 25) #[.pointer (some ⟨g, 0, none⟩)] #[]] w (Took g A c n w (seqP (recP zs) zs p) (rsV w.heap.size)) := by
  obtain ⟨info, hi, hz, hsize, hbyt⟩ := some_info info_rec
  have hlt := hr.lt
  have hby := hs.2.1
  have hn := hs.2.2.1
  have hbig := hs.2.2.2.2
  have h1 := rnum_any g A c n p zs w hs hr hp
  rcases hP1 : numP zs p with _ | ⟨N, p1⟩
  · have hU : seqP (recP zs) zs p = none := by unfold seqP; rw [hP1]
    rw [hU]
    rw [hP1] at h1
    have H1 := Lib.hid h1
    clear h1 hP1 hU hs hr hby
    go_enter Tryz.func97, Tryz.ntmps97
    go_wp2_with fail
    refine H1.out.mono ?_
    intro e w1 hT
    obtain ⟨hg, rfl⟩ := hT.none
    exact ⟨rfl, took_none hg⟩
  · have hU : seqP (recP zs) zs p = listP (recP zs) N.toNat p1 := by unfold seqP; rw [hP1]
    rw [hU]
    rw [hP1] at h1
    obtain ⟨a1, a2, a3, a4⟩ := numP_ok hby (by omega) hP1
    have hp1 := std_le a1
    obtain ⟨M, rfl⟩ := Int.eq_ofNat_of_zero_le a3
    rw [Int.toNat_natCast]
    have H1 := Lib.hid h1
    have HS := Lib.hid (And.intro hs hby)
    clear h1 hP1 hU hs hr hby a1
    go_enter Tryz.func97, Tryz.ntmps97
    go_wp2_with fail
    refine H1.out.mono ?_
    intro e w1 hT
    obtain ⟨v, rfl, hr1, rfl, hg1⟩ := hT.some
    have hs1 := HS.out.1.kept hg1 hlt
    have hby := HS.out.2
    have hsz1 := hg1.size
    have HX := Lib.hid (And.intro hr1 hg1)
    clear hT hr1 hs1 hby hg1 H1
    go_wp2_with fail
    go_loopw [5, 8] (fun v q wr => ∃ (k : Nat) (ps : List Pr) (r : Nat), q = .int .i64 k ∧ Taking (recP zs) M p1 k (ps.map Prod.fst) r ∧ r ≤ n ∧ RowR w.heap.size wr.heap.size wr v ps ∧ Rd g A c n r wr ∧ w.grownBy wr (some g)) (fun _ q _ => M - (intOf q).toNat)
    case atStart => exact ⟨0, [], p1, rfl, taking_start _ _ _, by omega, rowR_nil _ _ _, HX.out.1, HX.out.2⟩
    case round =>
      obtain ⟨k, ps, r, rfl, hT, hrn, ho, hrd, hg⟩ := hrel
      obtain ⟨hlk, hkM, hkr, _⟩ := id hT
      rw [List.length_map] at hlk
      have hsz := hg.size
      have hlt2 := hrd.lt
      by_cases hlt3 : k < M
      · have hsw : Src g A c n zs wr := HS.out.1.kept hg hlt
        have h2 := rrec_any g A c n r zs wr hsw hrd hrn
        rcases hPx : recP zs r with _ | ⟨x, q⟩
        · have hU := taking_none hT hlt3 hPx
          rw [hPx] at h2
          have H2 := Lib.hid h2
          have HU := Lib.hid (And.intro hU hg)
          clear h2 hPx hU hT ho hrd hg hsw
          go_wp2_with fail
          refine H2.out.mono ?_
          intro e w2 hT
          obtain ⟨hg2, rfl⟩ := hT.none
          refine ⟨rfl, ?_⟩
          rw [HU.out.1]
          exact took_none (grown_trans HU.out.2 hg2)
        · rw [hPx] at h2
          obtain ⟨hqr, hqn⟩ := recP_goes HS.out.2 (by omega) hPx
          have hT2 := taking_more hT hlt3 hPx hqr
          have H2 := Lib.hid h2
          have HU := Lib.hid (And.intro hT2 (And.intro ho hg))
          clear h2 hPx hT2 hT ho hrd hg hsw
          go_wp2_with fail
          refine H2.out.mono ?_
          intro e w2 hT
          obtain ⟨v, rfl, hr2, ⟨A2, c2, hv, hvo⟩, hg2⟩ := hT.some
          obtain ⟨hT2, ho, hg⟩ := HU.out
          have ho2 := ho.1.kept hg2 (own_apart ho.1 hlt)
          have hg3 := grown_trans hg hg2
          have hsz3 := hg3.size
          obtain ⟨xk, xl⟩ := x
          obtain ⟨m, hm⟩ : ∃ m, xl.length = m := ⟨_, rfl⟩
          have hv' : v = .agg #[.string xk, .slice A2 m c2] := by rw [hv, ← hm]
          have hadd := fun w' v' => ho.add (w1 := w2) (w2 := w') (v' := v') (p := ((xk, xl), A2, c2)) (fun j h1 h2 => hg2.block j h2 (by intro e; injection e with e; omega)) hg2.size hvo hsz
          have hoF := own_far ho.1 hlt
          have hoL := ho.1.lt
          subst hv'
          have HF := Lib.hid (And.intro hT2 (And.intro ho2 (And.intro hg3 (And.intro hr2 (And.intro hadd (And.intro hoF hoL))))))
          clear hT hT2 ho ho2 hg hg2 hg3 hr2 H2 HU hadd hoF hoL hv hvo
          go_wp2_with (at_builtin; refine wpList_append_r _ rfl _ _ _ rfl w.heap.size 24 info _ 40 Tryz.underlying37 hi hz hsize hbyt rfl _ ps.length ps rfl HF.out.2.1 ((xk, xl), A2, c2) m hm 1 rfl (by omega) (by omega) hsz3 ?_; intro v' w' o' g' hat)
          have hgw := grown_own HF.out.2.2.1 g' (fun j hj => (HF.out.2.2.2.2.2.2 j hj).1)
          have hrw : Rd g A c n q w' := HF.out.2.2.2.1.kept g' HF.out.2.2.2.2.2.1
          have hoo := HF.out.2.2.2.2.1 w' v' o' g' hat
          have HE := Lib.hid (And.intro HF.out.1 (And.intro hoo (And.intro hgw hrw)))
          clear HF o' g' hgw hrw hoo hat
          go_wp2_with fail
          go_roundw
          case rel => exact ⟨k + 1, ps ++ [((xk, xl), A2, c2)], q, rfl, by rw [List.map_append]; exact HE.out.1, by omega, HE.out.2.1, HE.out.2.2.2, HE.out.2.2.1⟩
          case measure => simp only [intOf]; omega
      · have hk : k = M := by omega
        subst hk
        have hE := taking_end hT
        obtain ⟨A', c', rfl, hc'⟩ := own_form_le ho.1
        have HE := Lib.hid (And.intro hE (And.intro ho (And.intro hrd hg)))
        clear hE ho hrd hg hT hlt3
        go_wp2_with fail
        go_ret
        rw [HE.out.1]
        exact took_some HE.out.2.2.2 HE.out.2.2.1 ⟨A', c', ps, by rw [List.length_map]; rfl, rfl, by rw [List.length_map]; exact hc', HE.out.2.1⟩
end Code
end Go.Proofs.YtegiigeelcnemaaGreat
