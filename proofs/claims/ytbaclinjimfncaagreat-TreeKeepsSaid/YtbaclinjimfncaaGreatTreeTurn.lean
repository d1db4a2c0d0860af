/-
  What becomes of a tree when a map is made, a key gets versions, a key goes: all but the spots; then the spots, one by one.
-/
import Derived.Test.YtbaclinjimfncaaGreatTreeSpot
import Derived.Test.YtbaclinjimfncaaGreatTreeRows
namespace Go.Proofs.YtbaclinjimfncaaGreat
namespace Tree
open Go.RowKit Vers Num Ring Disk Blk
open Go.Proofs.YtbaclinjimfncaaGreat.Code hiding Bn

/-- A tree but for its block's cells. -/
structure TI (F : Nat → Prop) (w : World) (tb : Nat) (mv : Nat → Option Nat) (f : Fp) (all : List Rc) : Prop where
  leaf : ∀ i, i < 256 → Leaf F w f all i (mv i)
  inj : ∀ i j k, i < 256 → j < 256 → mv i = some k → mv j = some k → i = j
  ne : ∀ i k, i < 256 → mv i = some k → k ≠ tb
  rows : ∀ r ∈ all, Row F (Mu tb mv) w f r
  ok : okAll all
  own : F tb
  lt : ∀ k, F k → k < w.heap.size
section
variable {F F' : Nat → Prop} {w w' : World} {tb : Nat} {mv : Nat → Option Nat} {f : Fp} {all : List Rc} {Bz : List Int → Prop} {r : Rc} {p : List Int}
theorem TR.ti (h : TR F w tb mv f all Bz) : TI F w tb mv f all := ⟨h.leaf, h.inj, fun _ _ hi hm => h.ne hi hm, h.rows, h.ok, h.own, h.lt⟩
theorem TI.tr (h : TI F w tb mv f all) {L : List Value} (h1 : Bn tb 82 L w) (h2 : Cells L mv all Bz) : TR F w tb mv f all Bz := ⟨⟨L, h1, h2⟩, h.leaf, h.inj, h.rows, h.ok, h.own, h.lt⟩
theorem TI.turn (h : TI F w tb mv f all) (hg : w.grownBy w' (some tb)) : TI F w' tb mv f all := by
  obtain ⟨h3, h4, hne, h5, h6, h7, h8⟩ := h
  exact ⟨fun i hi => ⟨(h3 i hi).1, fun mb hm => ⟨((h3 i hi).2 mb hm).1, ((h3 i hi).2 mb hm).2.same (hg.block _ (h8 _ ((h3 i hi).2 mb hm).1) (fun e => hne i mb hi hm (by injection e)))⟩⟩, h4, hne, fun r hr => (h5 r hr).keep hg.size fun k hk hM => hg.block k (h8 k hk) (fun e => hM (.inl (by injection e))), h6, h7, fun k hk1 => Nat.lt_of_lt_of_le (h8 k hk1) hg.size⟩
theorem TI.below (h : TI F w tb mv f all) (hb : Below w.heap.size w w') : TI F w' tb mv f all := h.turn ⟨hb.os, hb.tape, hb.output, hb.size, fun k hk _ => hb.block k hk⟩
/-- A map is made for a leaf that has none. -/
def mkM (mv : Nat → Option Nat) (i mb : Nat) : Nat → Option Nat := fun j => if j = i then some mb else mv j
theorem TI.mkmap (h : TI F w tb mv f all) {i : Nat} (hi : i < 256) (hm : mv i = none) (hw : Below w.heap.size w w') (hn : w'.heap[w.heap.size]? = some (.map #[] 0)) : TI (fun k => F k ∨ k = w.heap.size) w' tb (mkM mv i w.heap.size) f all := by
  have h' := h.below hw
  have hlt : w.heap.size < w'.heap.size := (Array.getElem?_eq_some_iff.1 hn).1
  have hMI : MI w' w.heap.size [] := (mi_made w).same (by
    rw [hn]
    have := World.alloc_heap_new w (.map #[] 0)
    rw [this])
  refine ⟨fun j hj => ?_, fun j k b hj hk e1 e2 => ?_, fun j k hj e => ?_, fun r hr => ?_, h'.ok, .inl h'.own, fun k hk => ?_⟩
  · unfold mkM
    by_cases e : j = i
    · subst e
      rw [if_pos rfl]
      refine ⟨(fun e => by cases e), fun mb hmb => ?_⟩
      injection hmb with hmb
      subst hmb
      rw [(h.leaf j hj).1 hm]
      exact ⟨.inr rfl, hMI⟩
    · rw [if_neg e]
      exact ⟨(h'.leaf j hj).1, fun mb hmb => ⟨.inl ((h'.leaf j hj).2 mb hmb).1, ((h'.leaf j hj).2 mb hmb).2⟩⟩
  · unfold mkM at e1 e2
    by_cases q1 : j = i
    · by_cases q2 : k = i
      · rw [q1, q2]
      · rw [if_pos q1] at e1
        rw [if_neg q2] at e2
        injection e1 with e1
        subst e1
        have := h.lt _ ((h.leaf k hk).2 _ e2).1
        omega
    · rw [if_neg q1] at e1
      by_cases q2 : k = i
      · rw [if_pos q2] at e2
        injection e2 with e2
        subst e2
        have := h.lt _ ((h.leaf j hj).2 _ e1).1
        omega
      · rw [if_neg q2] at e2
        exact h.inj j k b hj hk e1 e2
  · unfold mkM at e
    by_cases q : j = i
    · rw [if_pos q] at e
      injection e with e
      have := h.lt _ h.own
      omega
    · rw [if_neg q] at e
      exact h.ne j k hj e
  · obtain ⟨L, B, h1, h2, h3, h4⟩ := h'.rows r hr
    obtain ⟨L0, B0, g1, g2, g3, g4⟩ := h.rows r hr
    refine ⟨L0, B0, g1.keep fun a ha hb => World.cell?_of_block (hw.block _ (by omega)), g2, Nat.le_trans g3 hw.size, fun k a b => ⟨.inl (g4 k a b).1, fun hM => ?_⟩⟩
    rcases hM with hM | ⟨j, hj, hM⟩
    · exact (g4 k a b).2 (.inl hM)
    · unfold mkM at hM
      by_cases q : j = i
      · rw [if_pos q] at hM
        injection hM with hM
        omega
      · rw [if_neg q] at hM
        exact (g4 k a b).2 (.inr ⟨j, hj, hM⟩)
  · rcases hk with hk | rfl
    · exact h'.lt k hk
    · exact hlt
theorem cells_mk {L : List Value} (h : Cells L mv all Bz) {i mb : Nat} (hi : i < 256) : Cells (L.set i (.map (some mb))) (mkM mv i mb) all Bz := by
  obtain ⟨h1, h2, h3⟩ := h
  refine ⟨by simpa using h1, fun j hj => ?_, fun q hq => ?_⟩
  · unfold mkM
    by_cases e : j = i
    · subst e
      rw [if_pos rfl, List.getElem?_set_self (by omega)]
    · rw [if_neg e, List.getElem?_set_ne (fun q => e q.symm)]
      exact h2 j hj
  · obtain ⟨d, k, x, s0, s1, s2, s3, s4⟩ := h3 q hq
    exact ⟨d, k, x, (List.getElem?_set_ne (by omega)).trans s0, (List.getElem?_set_ne (by omega)).trans s1, (List.getElem?_set_ne (by omega)).trans s2, (List.getElem?_set_ne (by omega)).trans s3, s4⟩
theorem wout_map (f : Fp) (l : List Rc) (s : Nm) : wout (l.map (vOf f)) s = (wout l s).map (vOf f) := by
  unfold wout
  rw [List.filter_map]
  rfl
theorem ins_map {f f' : Fp} {s : Nm} {lv : List Vr} {b : Value} (hb : vOf f' (s, lv) = (s, b)) : ∀ (l : List Rc), (∀ x ∈ l, vOf f' x = vOf f x) → ins (l.map (vOf f)) s b = (ins l s lv).map (vOf f')
  | [], _ => by
    simp only [ins, List.map_nil, List.map_cons, hb]
  | x :: l, h => by
    have ih := ins_map hb l fun y hy => h y (by simp [hy])
    have hx := h x (by simp)
    have hl : l.map (vOf f) = l.map (vOf f') := List.map_congr_left fun y hy => (h y (by simp [hy])).symm
    simp only [List.map_cons, ins]
    rw [show (vOf f x).1 = x.1 from rfl]
    by_cases e : nlt s x.1 = true
    · rw [if_pos e, if_pos e]
      simp only [List.map_cons, hb, hx, hl]
    · rw [if_neg e, if_neg e]
      simp only [List.map_cons, hx, ih]
/-- Where the versions stand, with a key's new ones. -/
def putP (f : Fp) (key : Nm) (A : Option Addr) (c : Nat) : Fp := fun k => if k = key then (A, c) else f k
theorem TI.put (h : TI F w tb mv f all) {mb : Nat} {key : Nm} {lv : List Vr} (hne : lv ≠ []) (hok : okR (key, lv)) (hm : mv (leafN key) = some mb) {A : Option Addr} {c L B : Nat} (hv : Vs w L B A lv) (hc : lv.length ≤ c) (hB : B ≤ w.heap.size) (hL : ∀ k, L ≤ k → k < B → ¬ F k)
    (hM : MI w' mb (wit ((leafR all (leafN key)).map (vOf f)) key (.slice A lv.length c))) (hg : w.grownBy w' (some mb)) : TI (fun k => F k ∨ (L ≤ k ∧ k < B)) w' tb mv (putP f key A c) (withR all (key, lv)) := by
  have hlf := leaf_lt key
  have hmF := ((h.leaf _ hlf).2 mb hm).1
  have hold : ∀ x : Rc, x.1 ≠ key → vOf (putP f key A c) x = vOf f x := fun x hx => by unfold vOf putP; rw [if_neg hx]
  have hnew : vOf (putP f key A c) (key, lv) = (key, .slice A lv.length c) := by unfold vOf putP; rw [if_pos rfl]
  refine ⟨fun j hj => ?_, h.inj, h.ne, fun r hr => ?_, ⟨with_srt h.ok.1 _, fun r hr => ?_⟩, .inl h.own, fun k hk => ?_⟩
  · by_cases e : j = leafN key
    · subst e
      refine ⟨(fun e => by rw [hm] at e; cases e), fun b hb => ?_⟩
      rw [hm] at hb
      injection hb with hb
      subst hb
      refine ⟨.inl hmF, ?_⟩
      rw [show leafN key = leafN (key, lv).1 from rfl, leaf_with_eq h.ok.1]
      unfold withR
      rw [if_neg hne]
      rw [wit, wout_map] at hM
      rw [show (key, lv).1 = key from rfl, show (key, lv).2 = lv from rfl, wit]
      have hx := ins_map (f := f) hnew (wout (leafR all (leafN key)) key) fun x hx => hold x (mem_wout.1 hx).2
      rw [hx] at hM
      exact hM
    · have hl := h.leaf j hj
      have hlr := leaf_with_ne h.ok.1 (key, lv) e
      refine ⟨(fun q => by rw [hlr]; exact hl.1 q), fun b hb => ⟨.inl (hl.2 b hb).1, ?_⟩⟩
      rw [hlr]
      have hmm : (leafR all j).map (vOf (putP f key A c)) = (leafR all j).map (vOf f) := List.map_congr_left fun x hx => hold x fun q => e (by rw [← (leaf_mem.1 hx).2, q])
      rw [hmm]
      refine (hl.2 b hb).2.same (hg.block _ (h.lt _ (hl.2 b hb).1) fun q => ?_)
      injection q with q
      subst q
      exact e (h.inj j (leafN key) b hj hlf hb hm)
  · rcases with_mem.1 hr with ⟨rfl, _⟩ | ⟨h1, h2⟩
    · refine ⟨L, B, ?_, ?_, Nat.le_trans hB hg.size, fun k a b => ⟨.inr ⟨a, b⟩, fun hMu => hL k a b ?_⟩⟩
      · unfold putP
        rw [if_pos rfl]
        exact hv.keep fun a ha hb => World.cell?_of_block (hg.block _ (by omega) fun q => by
          injection q with q
          exact hL a.block ha hb (q ▸ hmF))
      · unfold putP
        rw [if_pos rfl]
        exact hc
      · rcases hMu with rfl | ⟨j, hj, hMu⟩
        · exact h.own
        · exact ((h.leaf j hj).2 k hMu).1
    · obtain ⟨L0, B0, g1, g2, g3, g4⟩ := h.rows r h1
      refine ⟨L0, B0, ?_, ?_, Nat.le_trans g3 hg.size, fun k a b => ⟨.inl (g4 k a b).1, (g4 k a b).2⟩⟩
      · unfold putP
        rw [if_neg h2]
        exact g1.keep fun a ha hb => World.cell?_of_block (hg.block _ (by omega) fun q => by
          injection q with q
          exact (g4 a.block ha hb).2 (.inr ⟨leafN key, hlf, q ▸ hm⟩))
      · unfold putP
        rw [if_neg h2]
        exact g2
  · rcases with_mem.1 hr with ⟨rfl, h1⟩ | ⟨h1, h2⟩
    · exact ⟨hok, h1⟩
    · exact h.ok.2 r h1
  · rcases hk with hk | ⟨_, hk⟩
    · exact Nat.lt_of_lt_of_le (h.lt k hk) hg.size
    · exact Nat.lt_of_lt_of_le hk (Nat.le_trans hB hg.size)
theorem TI.drop (h : TI F w tb mv f all) {mb : Nat} {key : Nm} (hm : mv (leafN key) = some mb)
    (hM : MI w' mb (wout ((leafR all (leafN key)).map (vOf f)) key)) (hg : w.grownBy w' (some mb)) : TI F w' tb mv f (withR all (key, [])) := by
  have hlf := leaf_lt key
  refine ⟨fun j hj => ?_, h.inj, h.ne, fun r hr => ?_, ⟨with_srt h.ok.1 _, fun r hr => ?_⟩, h.own, fun k hk => Nat.lt_of_lt_of_le (h.lt k hk) hg.size⟩
  · by_cases e : j = leafN key
    · subst e
      refine ⟨(fun e => by rw [hm] at e; cases e), fun b hb => ?_⟩
      rw [hm] at hb
      injection hb with hb
      subst hb
      refine ⟨((h.leaf _ hlf).2 mb hm).1, ?_⟩
      rw [show leafN key = leafN (key, ([] : List Vr)).1 from rfl, leaf_with_eq h.ok.1]
      unfold withR
      rw [if_pos rfl]
      rw [wout_map] at hM
      exact hM
    · have hl := h.leaf j hj
      have hlr := leaf_with_ne h.ok.1 (key, ([] : List Vr)) e
      refine ⟨(fun q => by rw [hlr]; exact hl.1 q), fun b hb => ⟨(hl.2 b hb).1, ?_⟩⟩
      rw [hlr]
      refine (hl.2 b hb).2.same (hg.block _ (h.lt _ (hl.2 b hb).1) fun q => ?_)
      injection q with q
      subst q
      exact e (h.inj j (leafN key) b hj hlf hb hm)
  · rcases with_mem.1 hr with ⟨_, h1⟩ | ⟨h1, h2⟩
    · exact absurd rfl h1
    · refine (h.rows r h1).keep hg.size fun k hk hn => hg.block k (h.lt k hk) fun q => ?_
      injection q with q
      exact hn (.inr ⟨leafN key, hlf, q ▸ hm⟩)
  · rcases with_mem.1 hr with ⟨_, h1⟩ | ⟨h1, h2⟩
    · exact absurd rfl h1
    · exact h.ok.2 r h1

/-! ### The spots on a key's path are made anew -/
def pre (key : Nm) (n : Nat) : List Int := [dig0 key, dig1 key].take n
theorem pre_ok (key : Nm) (n : Nat) : okP (pre key n) := by
  refine ⟨fun d hd => ?_, by unfold pre; rw [List.length_take]; exact Nat.min_le_right _ _⟩
  have := List.mem_of_mem_take hd
  have h0 := dig0_range key
  have h1 := dig1_range key
  simp at this
  omega
theorem pre_is {key : Nm} {p : List Int} (hp : okP p) (h : inP p key = true) : p = pre key p.length := by
  rcases ok_cases hp with rfl | ⟨a, rfl, _⟩ | ⟨a, b, rfl, _, _⟩
  · rfl
  · simp [inP] at h; simp [pre, h]
  · simp [inP] at h; simp [pre, h]
/-- The cells of a tree's block, where the spots on a key's path that have n digits or more may be wrong. -/
def Stale (L : List Value) (mv : Nat → Option Nat) (all : List Rc) (key : Nm) (n : Nat) : Prop :=
  L.length = 1348 ∧ (∀ i, i < 256 → L[i]? = some (.map (mv i))) ∧ ∀ p, okP p → ∃ (d x : Int), L[256 + 4 * spotN p]? = some (.int .u32 d) ∧ L[256 + 4 * spotN p + 1]? = some (.int .i32 0) ∧ L[256 + 4 * spotN p + 2]? = some (.int .u32 0) ∧ L[256 + 4 * spotN p + 3]? = some (.int .u64 x) ∧
    (d = 0 ∨ d = 1) ∧ ((inP p key = false ∨ p.length < n) → d = 0 ∨ x = hashF all p)
theorem beneath_with {r : Rc} (hs : Srt all) (h : inP p r.1 = false) : beneath all p = beneath (withR all r) p := by
  refine srt_mem (beneath_srt hs p) (beneath_srt (with_srt hs r) p) fun x => ?_
  rw [beneath_mem, beneath_mem, with_mem]
  constructor
  · rintro ⟨h1, h2⟩
    exact ⟨.inr ⟨h1, fun e => by rw [e, h] at h2; cases h2⟩, h2⟩
  · rintro ⟨⟨rfl, _⟩ | ⟨h1, _⟩, h2⟩
    · rw [h] at h2; cases h2
    · exact ⟨h1, h2⟩
theorem stale_start {L : List Value} (h : Cells L mv all fun _ => False) (r : Rc) (hs : Srt all) : Stale L mv (withR all r) r.1 0 := by
  obtain ⟨h1, h2, h3⟩ := h
  refine ⟨h1, h2, fun p hp => ?_⟩
  obtain ⟨d, k, x, s0, s1, s2, s3, _, s5⟩ := h3 p hp
  obtain ⟨e1, e2⟩ := s5 id
  subst e1
  refine ⟨d, x, s0, s1, s2, s3, e2.elim .inl fun q => .inr q.1, fun hq => ?_⟩
  rcases hq with hq | hq
  · rcases e2 with e2 | ⟨_, e2⟩
    · exact .inl e2
    · refine .inr ?_
      rw [e2]
      unfold hashF
      rw [if_pos hp, if_pos hp]
      exact hF_congr _ _ _ _ hp (by have := hp.2; omega) (beneath_with hs hq)
  · omega
/-- The spot of the next place is made anew. -/
theorem Stale.next {L L' : List Value} {key : Nm} {n : Nat} (h : Stale L mv all key n) (_hn : n < 3) (hl : L'.length = L.length) (hk : ∀ j, j < 256 + 4 * spotN (pre key n) ∨ 256 + 4 * spotN (pre key n) + 4 ≤ j → L'[j]? = L[j]?)
    (s0 : L'[256 + 4 * spotN (pre key n)]? = some (.int .u32 0)) (s1 : L'[256 + 4 * spotN (pre key n) + 1]? = some (.int .i32 0)) (s2 : L'[256 + 4 * spotN (pre key n) + 2]? = some (.int .u32 0)) (s3 : L'[256 + 4 * spotN (pre key n) + 3]? = some (.int .u64 0)) : Stale L' mv all key (n + 1) := by
  obtain ⟨h1, h2, h3⟩ := h
  refine ⟨hl.trans h1, fun i hi => (hk i (by omega)).trans (h2 i hi), fun p hp => ?_⟩
  by_cases e : p = pre key n
  · subst e
    exact ⟨0, 0, s0, s1, s2, s3, .inl rfl, fun _ => .inl rfl⟩
  · have hne : spotN p ≠ spotN (pre key n) := fun q => e (spot_inj hp (pre_ok key n) q)
    obtain ⟨d, x, q0, q1, q2, q3, q4, q5⟩ := h3 p hp
    refine ⟨d, x, (hk _ (by omega)).trans q0, (hk _ (by omega)).trans q1, (hk _ (by omega)).trans q2, (hk _ (by omega)).trans q3, q4, fun hq => ?_⟩
    rcases hq with hq | hq
    · exact q5 (.inl hq)
    · by_cases hin : inP p key = true
      · by_cases hln : p.length = n
        · exact absurd (by rw [← hln]; exact pre_is hp hin) e
        · exact q5 (.inr (by omega))
      · exact q5 (.inl (by simpa using hin))
/-- The cells of the next place's spot are made zero. -/
theorem zero_spot {V : World} {L : List Value} {key : Nm} {n o : Nat} (hB : Bn tb 82 L V) (hs : Stale L mv all key n) (hn : n < 3) (ho : o = 256 + 4 * spotN (pre key n)) : ∃ L', Bn tb 82 L' ((((V.setCell ⟨tb, o, none⟩ (.int .u32 0)).setCell ⟨tb, o + 1, none⟩ (.int .i32 0)).setCell ⟨tb, o + 2, none⟩ (.int .u32 0)).setCell ⟨tb, o + 3, none⟩ (.int .u64 0)) ∧ Stale L' mv all key (n + 1) ∧ V.grownBy ((((V.setCell ⟨tb, o, none⟩ (.int .u32 0)).setCell ⟨tb, o + 1, none⟩ (.int .i32 0)).setCell ⟨tb, o + 2, none⟩ (.int .u32 0)).setCell ⟨tb, o + 3, none⟩ (.int .u64 0)) (some tb) := by
  have hl := spot_lt (pre_ok key n)
  have hL := hs.1
  refine ⟨_, (((hB.set o (.int .u32 0)).set (o + 1) (.int .i32 0)).set (o + 2) (.int .u32 0)).set (o + 3) (.int .u64 0), hs.next hn (by simp) (fun j hj => ?_) ?_ ?_ ?_ ?_, grown_trans_one (grown_trans_one (grown_trans_one (gset _ _ _ _) (gset _ _ _ _)) (gset _ _ _ _)) (gset _ _ _ _)⟩
  · rw [List.getElem?_set_ne (by omega), List.getElem?_set_ne (by omega), List.getElem?_set_ne (by omega), List.getElem?_set_ne (by omega)]
  · rw [← ho, List.getElem?_set_ne (by omega), List.getElem?_set_ne (by omega), List.getElem?_set_ne (by omega), List.getElem?_set_self (by omega)]
  · rw [← ho, List.getElem?_set_ne (by omega), List.getElem?_set_ne (by omega), List.getElem?_set_self (by simp; omega)]
  · rw [← ho, List.getElem?_set_ne (by omega), List.getElem?_set_self (by simp; omega)]
  · rw [← ho, List.getElem?_set_self (by simp; omega)]
theorem Stale.cells {L : List Value} {key : Nm} (h : Stale L mv all key 3) : Cells L mv all fun _ => False := by
  obtain ⟨h1, h2, h3⟩ := h
  refine ⟨h1, h2, fun p hp => ?_⟩
  obtain ⟨d, x, q0, q1, q2, q3, q4, q5⟩ := h3 p hp
  refine ⟨d, 0, x, q0, q1, q2, q3, fun q => q.elim, fun _ => ⟨rfl, ?_⟩⟩
  rcases q4 with q4 | q4
  · exact .inl q4
  · rcases q5 (.inr (by have := hp.2; omega)) with q6 | q6
    · exact .inl q6
    · exact .inr ⟨q4, q6⟩
end
end Tree
end Go.Proofs.YtbaclinjimfncaaGreat
