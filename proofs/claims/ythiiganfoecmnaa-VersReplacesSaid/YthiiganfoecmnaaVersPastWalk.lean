/-
  vers.Past, told.
-/
import Derived.Test.YthiiganfoecmnaaVersPast
import Derived.Deep.RegionHeldLaw
import Derived.Deep.AppendLies
namespace Go.Proofs.Ythiiganfoecmnaa
namespace Vers
open Go.RowKit Span
attribute [local go_sem ↓] Go.wp_at_zero Go.wp_at_succ

def listsF (l : List Vr) : List (List Sp) := l.flatMap fun v => [[(v.s, v.n, v.n)], v.past]
theorem lists_len (l : List Vr) : (listsF l).length = 2 * l.length := by
  induction l with
  | nil => rfl
  | cons v l ih =>
    have : listsF (v :: l) = [[(v.s, v.n, v.n)], v.past] ++ listsF l := by simp [listsF]
    rw [this, List.length_append, ih]
    simp
    omega
theorem lists_flat (l : List Vr) (h : ∀ v ∈ l, v.past.length ≤ 1024) : (listsF l).flatten.length ≤ l.length * 1025 := by
  induction l with
  | nil => simp [listsF]
  | cons v l ih =>
    have e : (listsF (v :: l)).flatten = [(v.s, v.n, v.n)] ++ v.past ++ (listsF l).flatten := by simp [listsF]
    rw [e]
    simp only [List.length_append, List.length_cons, List.length_nil]
    have h1 := ih (fun v hv => h v (by simp [hv]))
    have h2 := h v (by simp)
    omega
theorem lists_mem (l : List Vr) (x : Sp) : x ∈ (listsF l).flatten ↔ ∃ v ∈ l, x = (v.s, v.n, v.n) ∨ x ∈ v.past := by
  simp only [listsF, List.mem_flatten, List.mem_flatMap]
  constructor
  · rintro ⟨m, ⟨v, hv, hm⟩, hx⟩
    simp only [List.mem_cons, List.not_mem_nil, or_false] at hm
    rcases hm with rfl | rfl
    · exact ⟨v, hv, .inl (by simpa using hx)⟩
    · exact ⟨v, hv, .inr hx⟩
  · rintro ⟨v, hv, h | h⟩
    · exact ⟨[(v.s, v.n, v.n)], ⟨v, hv, by simp⟩, by simp [h]⟩
    · exact ⟨v.past, ⟨v, hv, by simp⟩, h⟩
theorem lists_past {l : List Vr} (t n : Int) : Span.mem (listsF l).flatten t n ↔ ∃ v ∈ l, (v.s = t ∧ v.n = n) ∨ Span.mem v.past t n := by
  constructor
  · rintro ⟨x, hx, h⟩
    obtain ⟨v, hv, rfl | hp⟩ := (lists_mem l x).1 hx
    · exact ⟨v, hv, .inl (by unfold inSp at h; simp only at h; omega)⟩
    · exact ⟨v, hv, .inr ⟨x, hp, h⟩⟩
  · rintro ⟨v, hv, h | ⟨x, hp, h⟩⟩
    · exact ⟨_, (lists_mem l _).2 ⟨v, hv, .inl rfl⟩, by unfold inSp; simp only; omega⟩
    · exact ⟨x, (lists_mem l x).2 ⟨v, hv, .inr hp⟩, h⟩
theorem lists_ok {l : List Vr} (h : RightV l) : (∀ x ∈ (listsF l).flatten, okSp x) ∧ (listsF l).flatten.length * 24 ≤ 4294967296 := by
  refine ⟨fun x hx => ?_, ?_⟩
  · obtain ⟨v, hv, rfl | hp⟩ := (lists_mem l x).1 hx
    · obtain ⟨⟨h1, h2, h3, h4⟩, _⟩ := h.2.1.1 v hv
      exact ⟨h1, h2, h3, Int.le_refl _, h4⟩
    · exact (h.2.1.1 v hv).2.1.2.1 x hp
  · have h1 := lists_flat l (fun v hv => (h.2.1.1 v hv).2.1.1)
    have h2 := h.1
    omega
theorem lists_snoc {l : List Vr} {i : Nat} (h : i < l.length) : listsF (l.take (i + 1)) = listsF (l.take i) ++ [[((l.getD i v0).s, (l.getD i v0).n, (l.getD i v0).n)], (l.getD i v0).past] := by
  unfold listsF
  rw [List.take_succ_eq_append_getElem h, List.flatMap_append]
  congr 1
  simp [List.getD_eq_getElem?_getD, h]

theorem OwnL.add2 {base : Nat} {V V' : World} {v : Value} {m g7 cap7 : Nat} {es : List Le} {y y' : Le} (h : OwnL base V v m es) (hy : LeOK V v.ownBlock y) (hy' : LeOK V v.ownBlock y') (o : V'.ownsRow base 26 1 (.slice (some ⟨g7, 0, none⟩) (m + 2) cap7) (m + 2) (lcs es ++ [lec y, lec y'])) (hg : V.grownBy V' v.ownBlock) (hat : v.ownBlock = some g7 ∨ V.heap.size ≤ g7) :
    OwnL base V' (.slice (some ⟨g7, 0, none⟩) (m + 2) cap7) (m + 2) (es ++ [y, y']) :=
  ⟨by rw [List.length_append, h.1]; rfl, by
    have e1 : lcs (es ++ [y, y']) = lcs es ++ [lec y, lec y'] := by simp [lcs]
    rw [e1]; exact o, fun e he => by
    have he2 : LeOK V v.ownBlock e := by
      rcases List.mem_append.1 he with he | he
      · exact h.2.2 e he
      · simp only [List.mem_cons, List.not_mem_nil, or_false] at he
        rcases he with rfl | rfl
        · exact hy
        · exact hy'
    exact he2.grown hg (hat.imp (fun h => h.symm) fun h => ⟨g7, rfl, h⟩)⟩

/-- What vers.Past tells of a right set. -/
def PastPost (l : List Vr) (w : World) (e : Ending) (w' : World) : Prop :=
  Below w.heap.size w w' ∧ ((¬ RightV l ∧ e = .returned (.tuple #[.slice none 0 0, .int .i64 1])) ∨ (RightV l ∧ ∃ p, Hid (IsPast l p) ∧ ((1024 < p.length ∧ e = .returned (.tuple #[.slice none 0 0, .int .i64 30])) ∨ (p.length ≤ 1024 ∧ ∃ A c, e = .returned (.tuple #[.slice A p.length c, .int .i64 0]) ∧ Hid (w'.ownsRow w.heap.size 46 3 (.slice A p.length c) p.length (sps p))))))
def Pasting (l : List Vr) (base : Nat) (W : World) (i : Nat) (pv : Value) (wr : World) : Prop :=
  ∃ (m : Nat) (Al : Option Addr) (cl : Nat) (es : List Le), pv = .slice Al m cl ∧ m ≤ 2 * i ∧ Hid (OwnL base wr (.slice Al m cl) m es ∧ es.map Le.l = listsF (l.take i)) ∧ Hid (Below base W wr)
theorem info_list : (Try.prog.info? 26).map (fun i => (i.zero, i.size, i.bytes)) = some (some (.slice none 0 0), 1, 24) := by kernel_rfl

set_option maxRecDepth 100000 in
set_option maxHeartbeats 2000000 in
theorem past_any (A : Option Addr) (c n : Nat) (l : List Vr) (hn : l.length = n) (w : World) (hv : Vs w 0 w.heap.size A l) (hn2 : n ≤ 140737488355328) :
    Calls Try.prog 23 #[.slice A n c] w (PastPost l w) := by
  have h1 := rightV_any A c n l hn w hv hn2
  by_cases hr : RightV l
  · rw [decide_eq_true hr] at h1
    have H1 := Lib.hid h1
    have HV := Lib.hid (And.intro hv (And.intro hn hr))
    have hn512 : n ≤ 512 := by have := hr.1; omega
    obtain ⟨j0, hj0, hy0, hy1, hy2⟩ := info_parts info_list
    have HI := Lib.hid (And.intro hj0 (And.intro hy0 (And.intro hy1 hy2)))
    clear h1 hr hv hn hj0 hy0 hy1 hy2
    go_enter Try.func23, Try.ntmps23
    go_wp2_with fail
    refine H1.out.mono ?_
    rintro e w1 ⟨rfl, b1⟩
    obtain ⟨base, hbase⟩ : ∃ base, w1.heap.size = base := ⟨_, rfl⟩
    have HB : Hid (Below w.heap.size w w1 ∧ w1.heap.size = base ∧ Vs w1 0 base A l) := Lib.hid ⟨b1, hbase, by rw [← hbase]; exact (HV.out.1.below b1).more b1.size⟩
    have HST : Hid (Pasting l base w1 0 (.slice none 0 0) w1) := Lib.hid ⟨0, none, 0, [], rfl, by omega, Lib.hid ⟨⟨rfl, World.ownsRow_nil _ _ _ _, by simp⟩, by simp [listsF]⟩, Lib.hid (Below.refl _ _)⟩
    clear b1 hbase
    go_wp2_with fail
    go_loopw [4, 13] (fun pv iv wr => ∃ i : Nat, iv = .int .i64 i ∧ i ≤ n ∧ Pasting l base w1 i pv wr) (fun _ iv _ => n - (intOf iv).toNat)
    case atStart => exact ⟨0, rfl, by omega, HST.out⟩
    case round =>
      clear HST
      obtain ⟨i, rfl, hi, m, Al, cl, es, rfl, hm, hH, hb⟩ := hrel
      by_cases hlt : i < n
      · have hil : i < l.length := by have := HV.out.2.1; omega
        have hmem : l.getD i v0 ∈ l := by
          rw [List.getD_eq_getElem?_getD, List.getElem?_eq_getElem hil]
          exact List.getElem_mem _
        have hokv := HV.out.2.2.2.1.1 _ hmem
        obtain ⟨b, off, A1, c1, rfl, _, hbB, a0, a1, a2, a3, a4, hpv⟩ := HB.out.2.2.at HV.out.2.1 hb.out hlt rfl
        have hsn := lists_snoc hil
        obtain ⟨v, hvv⟩ : ∃ v, l.getD i v0 = v := ⟨_, rfl⟩
        rw [hvv] at a0 a1 a2 a3 a4 hpv hsn hokv
        clear hvv hmem
        obtain ⟨s, vn, vp, vg, vx⟩ := v
        simp only at a0 a1 a2 a3 a4 hsn
        have hkp8 : vp.length ≤ 1024 := hokv.2.1.1
        obtain ⟨kp, hkp⟩ : ∃ kp, vp.length = kp := ⟨_, rfl⟩
        rw [hkp] at a2 hkp8
        have hbs : base ≤ wr.heap.size := by have h1 := hb.out.size; have h2 := HB.out.2.1; omega
        have d1 : (0 : Int) ≤ (i : Int) := by omega
        have d2 : (i : Int) < (n : Int) := by omega
        have HO := Lib.hid (And.intro hkp (And.intro hsn (And.intro hpv hbs)))
        clear hkp hsn hpv hokv
        go_wp2_with fail
        obtain ⟨vb, hvb⟩ : ∃ vb, wr.heap.size = vb := ⟨_, rfl⟩
        obtain ⟨W, hW⟩ : ∃ W, wr.alloc (.cells #[.int .i64 s, .int .i64 vn, .slice A1 kp c1, .bool vg, .string vx] 28) = W := ⟨_, rfl⟩
        have x0 : W.cell? ⟨vb, 0, none⟩ = some (.int .i64 s) := by rw [← hW, ← hvb]; simp
        have x1 : W.cell? ⟨vb, 1, none⟩ = some (.int .i64 vn) := by rw [← hW, ← hvb]; simp
        have x2 : W.cell? ⟨vb, 2, none⟩ = some (.slice A1 kp c1) := by rw [← hW, ← hvb]; simp
        have hvW : vb < W.heap.size := by rw [← hW, ← hvb]; simp
        have HWW : Hid (Below wr.heap.size wr W ∧ OwnL base W (.slice Al m cl) m es ∧ base ≤ W.heap.size) := Lib.hid (by
          have h1 : Below wr.heap.size wr W := by rw [← hW]; exact (Below.refl _ wr).alloc (Nat.le_refl _) _
          exact ⟨h1, hH.out.1.below h1, by have := h1.size; have := HO.out.2.2.2; omega⟩)
        have hne : some vb ≠ (Value.slice Al m cl).ownBlock := fun e => by
          have h := (hH.out.1.2.1.lt vb e.symm).2
          omega
        rw [hW, hvb]
        clear hW a0 a1 a2 a3 a4 hbs
        go_region_held3 (fun V => V.cell? ⟨vb, 0, none⟩ = some (.int .i64 s) ∧ V.cell? ⟨vb, 1, none⟩ = some (.int .i64 vn) ∧ V.cell? ⟨vb, 2, none⟩ = some (.slice A1 kp c1)) (first
            | exact ⟨x0, x1, x2⟩
            | exact ⟨cell_below b2 hvW x0, cell_below b2 hvW x1, cell_below b2 hvW x2⟩
            | exact ⟨(World.cell?_alloc_lt _ _ _ (Nat.lt_of_lt_of_le hvW b2.size)).trans (cell_below b2 hvW x0), (World.cell?_alloc_lt _ _ _ (Nat.lt_of_lt_of_le hvW b2.size)).trans (cell_below b2 hvW x1), (World.cell?_alloc_lt _ _ _ (Nat.lt_of_lt_of_le hvW b2.size)).trans (cell_below b2 hvW x2)⟩
            | exact ⟨gr7.cell ((World.cell?_alloc_lt _ _ _ (Nat.lt_of_lt_of_le hvW b2.size)).trans (cell_below b2 hvW x0)) hne, gr7.cell ((World.cell?_alloc_lt _ _ _ (Nat.lt_of_lt_of_le hvW b2.size)).trans (cell_below b2 hvW x1)) hne, gr7.cell ((World.cell?_alloc_lt _ _ _ (Nat.lt_of_lt_of_le hvW b2.size)).trans (cell_below b2 hvW x2)) hne⟩)
          (first
            | (go_at_call 28; refine (dotlist_own s vn _).mono ?_; rintro e w2 ⟨db, rfl, hlo, nd, b2⟩)
            | (refine step_append_lies _ (by rfl) _ _ _ (by rfl) base 26 j0 _ 1 24 Try.underlying63 HI.out.1 HI.out.2.1 HI.out.2.2.1 HI.out.2.2.2 (by rfl) (by omega) (.slice Al m cl) m (lcs es) (by rfl) ((OwnL.below (show OwnL base W.drew (.slice Al m cl) m es from HWW.out.2.1) b2).2.1.alloc _) ⟨w2.heap.size, 0, none⟩ 2 2 [.slice (some ⟨db, 0, none⟩) 1 1, .slice A1 kp c1] (by rfl) (by rfl) (World.news_of_block (heap_alloc_new w2 _)) (by simp [Value.oneCell']) (by omega) (by unfold maxLen; omega) (by omega) (Nat.le_trans (Nat.le_trans HWW.out.2.2 b2.size) (by simp)) (w2.heap.size + 1) (by simp) ?_; intro g7 cap7 w7 o7 gr7 at7 hl7))
        all_goals
          have HOW : Hid (OwnL base (w2.alloc (.cells #[.slice (some ⟨db, 0, none⟩) 1 1, .slice A1 kp c1] 26)) (.slice Al m cl) m es ∧ Below base wr w2 ∧ LeOK (w2.alloc (.cells #[.slice (some ⟨db, 0, none⟩) 1 1, .slice A1 kp c1] 26)) (Value.slice Al m cl).ownBlock ⟨some ⟨db, 0, none⟩, [(s, vn, vn)], 1⟩ ∧ LeOK (w2.alloc (.cells #[.slice (some ⟨db, 0, none⟩) 1 1, .slice A1 kp c1] 26)) (Value.slice Al m cl).ownBlock ⟨A1, vp, c1⟩) := Lib.hid (by
            have hal : Below w2.heap.size w2 (w2.alloc (.cells #[.slice (some ⟨db, 0, none⟩) 1 1, .slice A1 kp c1] 26)) := (Below.refl _ w2).alloc (Nat.le_refl _) _
            have hb2 : Below W.heap.size W w2 := (show Below W.heap.size W W.drew from (Below.refl _ W).drew).trans b2
            have hbw : Below base wr w2 := (HWW.out.1.mono HO.out.2.2.2).trans (hb2.mono HWW.out.2.2)
            refine ⟨((HWW.out.2.1).below hb2).below hal, hbw, ?_, ?_⟩
            · refine (LeOK.of nd (Nat.le_refl _) (by simp) (fun _ b' off' he e => ?_)).below hal
              injection he with he
              injection he with he1 he2
              have h1 := (HWW.out.2.1.2.1.lt b' e.symm).2
              have h2 : W.heap.size ≤ db := hlo
              omega
            · refine (LeOK.of (HO.out.2.2.1.1.below hbw) (Nat.le_trans HO.out.2.2.2 (Nat.le_trans HWW.out.1.size hb2.size)) HO.out.2.2.1.2.1 (fun hp b' off' he e => ?_)).below hal
              have h1 := (HWW.out.2.1.2.1.lt b' e.symm).1
              obtain ⟨b3, off3, he3, hlt3, _⟩ := HO.out.2.2.1.1 hp
              rw [he] at he3
              injection he3 with he3
              injection he3 with he4 _
              omega)
          have HNEW := Lib.hid (And.intro (OwnL.add2 HOW.out.1 HOW.out.2.2.1 HOW.out.2.2.2 (by
            have h := o7
            rw [show (Value.slice A1 kp c1) = lec ⟨A1, vp, c1⟩ by unfold lec; rw [HO.out.1]] at h
            exact h) gr7 (at7.imp id fun h => by rw [h]; simp)) ((HOW.out.2.1.alloc (by have := HOW.out.2.1.size; have := HO.out.2.2.2; omega) _).grown gr7 (by have := HOW.out.2.1.size; have := HO.out.2.2.2; simp; omega) (fun r hr => (HOW.out.1.2.1.lt r hr).1)))
          go_wp2_with fail
          exact ⟨⟨i + 1, rfl, by omega, m + 2, some ⟨g7, 0, none⟩, cap7, es ++ [⟨some ⟨db, 0, none⟩, [(s, vn, vn)], 1⟩, ⟨A1, vp, c1⟩], rfl, by omega, Lib.hid ⟨HNEW.out.1, by rw [HO.out.2.1, List.map_append, hH.out.2]; rfl⟩, Lib.hid (hb.out.trans HNEW.out.2)⟩, by simp only [intOf]; omega⟩
      · have hin : i = n := by omega
        have d1 : ¬ (i : Int) < (n : Int) := by omega
        have hls : Lss wr wr.heap.size Al (listsF l) := by
          have h := hH.out.1.lss
          rw [hH.out.2, List.take_of_length_le (by have := HV.out.2.1; omega)] at h
          exact h
        have hlm : (listsF l).length = m := by
          have h := congrArg List.length hH.out.2
          rw [List.take_of_length_le (by have := HV.out.2.1; omega), List.length_map, hH.out.1.1] at h
          exact h.symm
        have HG := Lib.hid (spans_any Al cl m (listsF l) hlm (lists_ok HV.out.2.2).1 wr hls (own_len hH.out.1.2.1).2 (lists_ok HV.out.2.2).2 (by omega))
        have HBW := Lib.hid (HB.out.1.trans (hb.out.mono (by have h1 := HB.out.1.size; have h2 := HB.out.2.1; omega)))
        clear hls hlm hH hb
        go_wp2_with fail
        refine HG.out.mono ?_
        rintro e w3 ⟨p, hp, A3, c3, rfl, o3, b3⟩
        have hip : IsPast l p := ⟨hp.out.1, fun t q => (hp.out.2.1 t q).trans (lists_past t q)⟩
        have HF := Lib.hid (And.intro hip (And.intro o3 (HBW.out.trans (b3.mono HBW.out.size))))
        have hs3 := HBW.out.size
        obtain ⟨k, hk⟩ : ∃ k, p.length = k := ⟨_, rfl⟩
        have HK := Lib.hid hk
        rw [hk] at HF ⊢
        clear hp hip o3 b3 hk HG
        by_cases hlong : 1024 < k
        · have d2 : (1024 : Int) < (k : Int) := by omega
          go_wp2_with fail
          go_ret2
          exact ⟨HF.out.2.2, .inr ⟨HV.out.2.2, p, Lib.hid HF.out.1, .inl ⟨by rw [HK.out]; exact hlong, rfl⟩⟩⟩
        · have d2 : ¬ (1024 : Int) < (k : Int) := by omega
          go_wp2_with fail
          go_ret2
          exact ⟨HF.out.2.2, .inr ⟨HV.out.2.2, p, Lib.hid HF.out.1, .inr ⟨by rw [HK.out]; omega, A3, c3, by rw [HK.out]; rfl, Lib.hid (by rw [HK.out]; exact own_base HF.out.2.1 hs3)⟩⟩⟩
  · rw [decide_eq_false hr] at h1
    have H1 := Lib.hid h1
    have HR := Lib.hid hr
    clear h1 hr hv hn
    go_enter Try.func23, Try.ntmps23
    go_wp2_with fail
    refine H1.out.mono ?_
    rintro e w1 ⟨rfl, b1⟩
    have B1 := Lib.hid b1
    clear b1
    go_wp2_with fail
    go_ret2
    exact ⟨B1.out, .inl ⟨HR.out, rfl⟩⟩
end Vers
end Go.Proofs.Ythiiganfoecmnaa
