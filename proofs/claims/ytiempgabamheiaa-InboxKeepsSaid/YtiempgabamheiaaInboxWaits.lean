/-
  inbox.Waits: copies of what waits.
-/
import Derived.Test.YtiempgabamheiaaInboxReadyAny
import Derived.Test.YtiempgabamheiaaGFill
namespace Go.Proofs.Ytiempgabamheiaa
namespace Inbox
open Go.RowKit Vers Span Blk
attribute [local go_sem ↓] Go.wp_at_zero Go.wp_at_succ

/-- Block g is a row of n far writes; the first ones are ps. -/
def FillF (w : World) (g n : Nat) (ps : List FE) : Prop :=
  ∃ cur, w.heap[g]? = some (.cells cur 35 (0, 0)) ∧ cur.size = n * 5 ∧ ∀ j, j < ps.length * 5 → cur[j]? = (fcs ps)[j]?

section
variable {w w' : World} {g n : Nat} {ps : List FE}
theorem FillF.keep (h : FillF w g n ps) (hk : w'.heap[g]? = w.heap[g]?) : FillF w' g n ps := by
  obtain ⟨cur, h1, h2, h3⟩ := h
  exact ⟨cur, hk.trans h1, h2, h3⟩
theorem FillF.frozen (h : FillF w g n ps) (j : Nat) : w.frozen? ⟨g, j, none⟩ = false := by
  obtain ⟨cur, h1, _⟩ := h
  simp [World.frozen?, h1]
theorem FillF.cell (h : FillF w g n ps) (j : Nat) (hj : j < n * 5) : ∃ z, w.cell? ⟨g, j, none⟩ = some z := by
  obtain ⟨cur, h1, h2, _⟩ := h
  exact ⟨cur[j]'(by omega), by rw [cell_of_row w g j cur 35 (0, 0) h1]; exact Array.getElem?_eq_getElem (by omega)⟩
theorem FillF.lt (h : FillF w g n ps) : g < w.heap.size := by
  obtain ⟨cur, h1, _⟩ := h
  exact (Array.getElem?_eq_some_iff.1 h1).1
theorem FillF.own (h : FillF w g n ps) (hn : ps.length = n) (base : Nat) (hb : base ≤ g) (hm : n ≤ maxLen) : w.ownsRow base 35 5 (.slice (some ⟨g, 0, none⟩) n n) n (fcs ps) := by
  obtain ⟨cur, h1, h2, h3⟩ := h
  subst hn
  refine ⟨fcs_length ps, .inr ⟨g, ps.length, cur, rfl, hb, h1, Nat.le_refl _, hm, h2, ?_⟩⟩
  apply List.ext_getElem?
  intro j
  by_cases hj : j < ps.length * 5
  · rw [List.getElem?_take_of_lt hj, Array.getElem?_toList, h3 j hj]
  · rw [List.getElem?_take_eq_none (by omega), List.getElem?_eq_none (by rw [fcs_length]; omega)]

/-- One more is laid behind. -/
theorem FillF.put (h : FillF w g n ps) (hn : ps.length < n) (p : FE) (o : Nat) (ho : o = ps.length * 5) : FillF (put5o w g o (.int .i64 p.1.1.1) (.int .i64 p.1.1.2) (.string p.1.2.1.1) (.slice p.2.1.1 p.1.2.1.2.length p.2.1.2) (.slice p.2.2.1 p.1.2.2.length p.2.2.2)) g n (ps ++ [p]) := by
  subst ho
  obtain ⟨cur, h1, h2, h3⟩ := h
  have k1 := set_row h1 (ps.length * 5) (.int .i64 p.1.1.1)
  have k2 := set_row k1 (ps.length * 5 + 1) (.int .i64 p.1.1.2)
  have k3 := set_row k2 (ps.length * 5 + 2) (.string p.1.2.1.1)
  have k4 := set_row k3 (ps.length * 5 + 3) (.slice p.2.1.1 p.1.2.1.2.length p.2.1.2)
  have k5 := set_row k4 (ps.length * 5 + 4) (.slice p.2.2.1 p.1.2.2.length p.2.2.2)
  refine ⟨_, k5, by simpa using h2, fun j hj => ?_⟩
  rw [List.length_append, List.length_singleton] at hj
  rw [fcs_append, fcs_one]
  by_cases hj0 : j < ps.length * 5
  · rw [List.getElem?_append_left (by rw [fcs_length]; exact hj0), ← h3 j hj0]
    rw [Array.getElem?_setIfInBounds_ne (by omega), Array.getElem?_setIfInBounds_ne (by omega), Array.getElem?_setIfInBounds_ne (by omega), Array.getElem?_setIfInBounds_ne (by omega), Array.getElem?_setIfInBounds_ne (by omega)]
  · rw [List.getElem?_append_right (by rw [fcs_length]; omega), fcs_length]
    obtain ⟨r, rfl⟩ : ∃ r, j = ps.length * 5 + r := ⟨j - ps.length * 5, by omega⟩
    have hr : r < 5 := by omega
    have hc : cur.size = n * 5 := h2
    rw [show ps.length * 5 + r - ps.length * 5 = r by omega]
    match r, hr with
    | 0, _ => rw [Array.getElem?_setIfInBounds_ne (by omega), Array.getElem?_setIfInBounds_ne (by omega), Array.getElem?_setIfInBounds_ne (by omega), Array.getElem?_setIfInBounds_ne (by omega), Nat.add_zero, Array.getElem?_setIfInBounds_self_of_lt (by omega)]; rfl
    | 1, _ => rw [Array.getElem?_setIfInBounds_ne (by omega), Array.getElem?_setIfInBounds_ne (by omega), Array.getElem?_setIfInBounds_ne (by omega), Array.getElem?_setIfInBounds_self_of_lt (by simp; omega)]; rfl
    | 2, _ => rw [Array.getElem?_setIfInBounds_ne (by omega), Array.getElem?_setIfInBounds_ne (by omega), Array.getElem?_setIfInBounds_self_of_lt (by simp; omega)]; rfl
    | 3, _ => rw [Array.getElem?_setIfInBounds_ne (by omega), Array.getElem?_setIfInBounds_self_of_lt (by simp; omega)]; rfl
    | 4, _ => rw [Array.getElem?_setIfInBounds_self_of_lt (by simp; omega)]; rfl
/-- What make laid. -/
theorem fillf_start {base : Nat} {xs : List Value} (h : w.ownsRow base 35 5 (.slice (some ⟨g, 0, none⟩) n n) n xs) : FillF w g n [] := by
  rcases h.2 with ⟨h0, _⟩ | ⟨g', cap, cur, hv, _, hg, _, _, hs, _⟩
  · cases h0
  · injection hv with h1 _ h2
    injection h1 with h1
    injection h1 with h1
    subst h1
    subst h2
    exact ⟨cur, hg, hs, fun j hj => absurd hj (by simp)⟩
end

/-- k of them have been copied. -/
def CopyF (P : List Fr) (n g : Nat) (w : World) (iv : Value) (wr : World) : Prop :=
  ∃ (k : Nat) (ys : List FE), iv = .int .i64 (k : Int) ∧ k ≤ n ∧ ys.map Prod.fst = P.take k ∧ FillF wr g n ys ∧ (∀ y ∈ ys, (∃ L B, Hd wr L B y ∧ g + 1 ≤ L ∧ B ≤ wr.heap.size) ∧ (∀ a, 0 < y.1.2.1.2.length → y.2.1.1 = some a → g + 1 ≤ a.block) ∧ Tn 59 wr y.1.2.1.2.length y.2.1.1 ∧ (∀ a, 0 < y.1.2.2.length → y.2.2.1 = some a → g + 1 ≤ a.block) ∧ Tn 3 wr y.1.2.2.length y.2.2.1) ∧ Below w.heap.size w wr
/-- They can be written. -/
def TnF (w : World) (A : Option Addr) (l : List Fr) : Prop := 0 < l.length → ∃ b off, A = some ⟨b, off, none⟩ ∧ (∃ cur, w.heap[b]? = some (.cells cur 35 (0, 0))) ∧ ∀ j x, l[j]? = some x → ∃ p1 p2 : Plc, (∀ r u, (fc (x, p1, p2))[r]? = some u → w.cell? ⟨b, off + j * 5 + r, none⟩ = some u) ∧ Tn 59 w x.2.1.2.length p1.1 ∧ Tn 3 w x.2.2.length p2.1
/-- Copies of far writes, in memory of the call's own. -/
def NewFs (P : List Fr) (n : Nat) (w : World) (e : Ending) (w' : World) : Prop :=
  ∃ A1 c1, e = .returned (.slice A1 n c1) ∧ Hid (P.length = n ∧ FsP (fun k => w.heap.size ≤ k) w' A1 P ∧ TnF w' A1 P) ∧ Below w.heap.size w w'
set_option maxRecDepth 100000 in
set_option maxHeartbeats 2000000 in
theorem list_far (A : Option Addr) (c n : Nat) (P : List Fr) (hn : P.length = n) (w : World) (hf : Fs w w.heap.size A P) (hP : ∀ y ∈ P, okF y) (hbig : n ≤ 1759218604390) :
    Calls Try.prog 43 #[.slice A n c, .func (.func 35) #[] #[]] w (NewFs P n w) := by
  by_cases h0 : n = 0
  · subst h0
    have : P = [] := List.eq_nil_of_length_eq_zero hn
    subst this
    clear hf hP
    go_enter Try.func43, Try.ntmps43
    go_wp2_with fail
    go_ret
    exact ⟨none, 0, rfl, Lib.hid ⟨rfl, fun h => absurd h (by simp), fun h => absurd h (by simp)⟩, Below.refl _ _⟩
  obtain ⟨i0, hi0, hz0, hz1, hz2⟩ := info_parts info_far
  have e1 : ((n : Int) == 0) = false := by simp; omega
  have e2 : ¬ (n : Int) = 0 := by omega
  obtain ⟨b, off, rfl, hbB, hat⟩ := hf (by omega)
  have HV := Lib.hid (And.intro hat (And.intro hn (And.intro hP hbB)))
  clear hf hn hP hat
  go_enter Try.func43, Try.ntmps43
  go_wp2_with (at_make; refine wpList_make_full _ rfl _ _ 48 rfl w.heap.size 35 i0 _ 5 Try.underlying48 hi0 hz0 hz1 _ _ _ _ n rfl rfl rfl rfl (by rw [hz2]; omega) (by unfold maxLen; omega) (Nat.le_refl _) ?_; intro w1 o1 g1; have b1 : Below w.heap.size w w1 := (Below.refl _ _).grown g1 (Nat.le_refl _) (fun k hk => by cases hk))
  obtain ⟨g, hg⟩ : ∃ g, w.heap.size = g := ⟨_, rfl⟩
  have HG := Lib.hid hg
  have HI : Hid (CopyF P n g w (.int .i64 0) w1) := Lib.hid ⟨0, [], rfl, by omega, by simp, fillf_start (by rw [← hg]; exact o1), by simp, b1⟩
  rw [hg]
  clear hg o1 g1 b1
  go_loopw [6, 7, 16] (fun _ _ iv wr => CopyF P n g w iv wr) (fun _ _ iv _ => n - (intOf iv).toNat)
  case atStart => exact HI.out
  case round =>
    obtain ⟨k, ys, rfl, hk, hps, hf, hpa, hb⟩ := hrel
    clear HI
    by_cases hlt : k < n
    · obtain ⟨x, hx⟩ : ∃ x, P[k]? = some x := ⟨P[k]'(by have := HV.out.2.1; omega), by simp⟩
      have hxm : x ∈ P := List.mem_of_getElem? hx
      obtain ⟨⟨a1, c1⟩, ⟨a2, c2⟩, hcl, hv1, hr1, hsz, _⟩ := HV.out.1 k x hx
      have hok := HV.out.2.2.1 x hxm
      have HT : Hid (P.take (k + 1) = P.take k ++ [x]) := Lib.hid (by
        obtain ⟨hkl, hxe⟩ := List.getElem?_eq_some_iff.1 hx
        rw [List.take_succ_eq_append_getElem hkl, hxe])
      obtain ⟨⟨f1, f2⟩, ⟨k1, v1⟩, rr⟩ := x
      obtain ⟨hm1, _⟩ := ok_one hok
      simp only at hv1 hr1
      obtain ⟨r1, hrl⟩ : ∃ r, rr.length = r := ⟨_, rfl⟩
      have hcell : ∀ r u, (fc (((f1, f2), (k1, v1), rr), (a1, c1), (a2, c2)))[r]? = some u → wr.cell? ⟨b, off + k * 5 + r, none⟩ = some u := fun r u hu => (hb.cell (p := ⟨b, off + k * 5 + r, none⟩) HV.out.2.2.2).trans (hcl r u hu)
      have q0 : wr.cell? ⟨b, off + k * 5, none⟩ = some (.int .i64 f1) := hcell 0 _ rfl
      have q1 : wr.cell? ⟨b, off + k * 5 + 1, none⟩ = some (.int .i64 f2) := hcell 1 _ rfl
      have q2 : wr.cell? ⟨b, off + k * 5 + 2, none⟩ = some (.string k1) := hcell 2 _ rfl
      have q3 : wr.cell? ⟨b, off + k * 5 + 3, none⟩ = some (.slice a1 1 c1) := by rw [← hm1]; exact hcell 3 _ rfl
      have q4 : wr.cell? ⟨b, off + k * 5 + 4, none⟩ = some (.slice a2 r1 c2) := by rw [← hrl]; exact hcell 4 _ rfl
      have hsz' := hb.size
      have d1 : (0 : Int) ≤ (k : Int) := by omega
      have d2 : (k : Int) < (n : Int) := by omega
      have hpl : ys.length = k := by have h := congrArg List.length hps; have := HV.out.2.1; simpa [List.length_take, show k ≤ P.length by omega] using h
      have HO := Lib.hid (And.intro hf (And.intro hpa (And.intro hb (And.intro hps (And.intro hpl (And.intro hm1 hrl))))))
      have hK : Hid (∀ W, Below wr.heap.size wr W → Calls Try.prog 35 #[.agg #[.int .i64 f1, .int .i64 f2, .string k1, .slice a1 1 c1, .slice a2 r1 c2]] W (NewF f1 f2 k1 v1 1 rr r1 W)) := Lib.hid fun W hW =>
        copied_any f1 f2 k1 a1 c1 1 v1 hm1 (by omega) (fun z hzz => by
          obtain ⟨⟨_, _, _, ⟨h1, _⟩, _⟩, _⟩ := hok
          have := past_le (h1 z hzz)
          omega) a2 c2 r1 rr hrl (by have := hsz.2.2; simp only at this; omega) W ((hv1.below (hb.trans (hW.mono hb.size))).more (Nat.le_trans hb.size hW.size)) ((hr1.below (hb.trans (hW.mono hb.size))).more (Nat.le_trans hb.size hW.size))
      obtain ⟨W1, hW1⟩ : ∃ W, wr.alloc (.cells #[.int .i64 f1, .int .i64 f2, .string k1, .slice a1 1 c1, .slice a2 r1 c2] 35) = W := ⟨_, rfl⟩
      have hW : Below wr.heap.size wr W1 := by rw [← hW1]; exact (Below.refl _ wr).alloc (Nat.le_refl _) _
      have HW1 := Lib.hid (And.intro hW1 hW)
      have hKW := Lib.hid (hK.out W1 hW)
      clear hf hpa hb hps hpl hm1 hrl hx hxm hok hcl hv1 hr1 hsz hcell hW1 hW hK
      go_upto_region 7 with fail
      rw [HW1.out.1]
      have B1 : Bn wr.heap.size 35 [.int .i64 f1, .int .i64 f2, .string k1, .slice a1 1 c1, .slice a2 r1 c2] W1 := by rw [← HW1.out.1]; exact heap_alloc_new wr _
      have x0 := (B1.cell 0).trans rfl
      have x1 := (B1.cell 1).trans rfl
      have x2 := (B1.cell 2).trans rfl
      have x3 := (B1.cell 3).trans rfl
      have x4 := (B1.cell 4).trans rfl
      clear B1
      go_wp2_with fail
      refine Calls.mono hKW.out ?_
      rintro e w2 ⟨A1, c3, A2, c4, rfl, hp2, b2⟩
      have b3 : Below wr.heap.size wr w2 := HW1.out.2.trans (b2.mono HW1.out.2.size)
      have hs1 := HW1.out.2.size
      have hf2 : FillF w2 g n ys := HO.out.1.keep (b3.block g HO.out.1.lt)
      obtain ⟨y0, hy0⟩ := hf2.cell (k * 5) (by omega)
      obtain ⟨y1, hy1⟩ := hf2.cell (k * 5 + 1) (by omega)
      obtain ⟨y2, hy2⟩ := hf2.cell (k * 5 + 2) (by omega)
      obtain ⟨y3, hy3⟩ := hf2.cell (k * 5 + 3) (by omega)
      obtain ⟨y4, hy4⟩ := hf2.cell (k * 5 + 4) (by omega)
      have f0 := hf2.frozen (k * 5)
      have f1' := hf2.frozen (k * 5 + 1)
      have f2' := hf2.frozen (k * 5 + 2)
      have f3 := hf2.frozen (k * 5 + 3)
      have f4 := hf2.frozen (k * 5 + 4)
      have HF2 := Lib.hid (And.intro hf2 (And.intro b3 hp2))
      clear hf2 b3 hp2 b2 hKW x0 x1 x2 x3 x4
      go_wp2_with fail
      rw [put5o_lit]
      obtain ⟨Y, hY⟩ : ∃ Y, put5o w2 g (k * 5) (.int .i64 f1) (.int .i64 f2) (.string k1) (.slice A1 1 c3) (.slice A2 r1 c4) = Y := ⟨_, rfl⟩
      have hfill := HF2.out.1.put (p := (((f1, f2), (k1, v1), rr), (A1, c3), (A2, c4))) (by have := HO.out.2.2.2.2.1; omega) (k * 5) (by have := HO.out.2.2.2.2.1; omega)
      simp only at hfill
      rw [HO.out.2.2.2.2.2.1, HO.out.2.2.2.2.2.2, hY] at hfill
      have hYh : ∀ q, q ≠ g → Y.heap[q]? = w2.heap[q]? := fun q hq => by rw [← hY]; exact put5o_heap hq
      have hYs : Y.heap.size = w2.heap.size := by rw [← hY]; exact put5o_size
      have hYb : Below g w2 Y := by rw [← hY]; exact put5o_below
      rw [hY]
      have hwg : w.heap.size = g := HG.out
      have s2 := HF2.out.2.1.size
      have hgl := HO.out.1.lt
      have hrel : CopyF P n g w (.int .i64 ((k : Int) + 1)) Y := ⟨k + 1, ys ++ [(((f1, f2), (k1, v1), rr), (A1, c3), (A2, c4))], rfl, by omega, by
          rw [List.map_append, HO.out.2.2.2.1, HT.out]; rfl, hfill, fun q hq => by
          rcases List.mem_append.1 hq with hq | hq
          · obtain ⟨⟨L, B, h1, h2, h3⟩, k1, k2, k3, k4⟩ := HO.out.2.1 q hq
            refine ⟨⟨L, B, (h1.below (HF2.out.2.1.mono h3)).heap fun j a b => hYh j (by omega), h2, by omega⟩, k1, k2.same fun a hn ha => ?_, k3, k4.same fun a hn ha => ?_⟩
            · exact (hYh _ (by have := k1 a hn ha; omega)).trans (HF2.out.2.1.block _ (k2.lt hn ha))
            · exact (hYh _ (by have := k3 a hn ha; omega)).trans (HF2.out.2.1.block _ (k4.lt hn ha))
          · rw [List.mem_singleton.1 hq]
            have hH := HF2.out.2.2.out.1
            have l1 : ∀ a, 0 < v1.length → A1 = some a → g + 1 ≤ a.block := fun a hn ha => by
              obtain ⟨b, off, e, hb, _⟩ := hH.1 hn
              simp only at e
              rw [e] at ha
              injection ha with ha
              subst ha
              simp only
              omega
            have l2 : ∀ a, 0 < rr.length → A2 = some a → g + 1 ≤ a.block := fun a hn ha => by
              have := hH.2.2.1 hn a ha
              omega
            refine ⟨⟨W1.heap.size, w2.heap.size, hH.heap fun j a b => hYh j (by omega), by omega, by omega⟩, l1, ?_, l2, ?_⟩
            · have hT := HF2.out.2.2.out.2.1
              rw [← HO.out.2.2.2.2.2.1] at hT
              exact hT.same fun a hn ha => hYh _ (by have := l1 a hn ha; omega)
            · have hT := HF2.out.2.2.out.2.2
              rw [← HO.out.2.2.2.2.2.2] at hT
              exact hT.same fun a hn ha => hYh _ (by have := l2 a hn ha; omega), by
          rw [hwg]
          have h1 := HO.out.2.2.1
          rw [hwg] at h1
          exact (h1.trans (HF2.out.2.1.mono (by omega))).trans hYb⟩
      have HR := Lib.hid hrel
      clear hrel
      go_roundw
      case rel => exact HR.out
      case measure => simp only [intOf]; omega
    · obtain rfl : k = n := by omega
      have hpl : ys.length = k := by have h := congrArg List.length hps; have h2 := HV.out.2.1; simpa [List.length_take, h2] using h
      have hfin : NewFs P k w (.returned (.slice (some ⟨g, 0, none⟩) k k)) wr := by
        have hown := hf.own hpl 0 (Nat.zero_le _) (by unfold maxLen; omega)
        have hgw := HG.out
        have hfs := own_fsP (S := fun k => w.heap.size ≤ k) hown hpl (fun q hq => by
          have : g = q := by simpa [Value.ownBlock] using hq
          omega) fun y hy => by
          obtain ⟨⟨L, B, h1, h2, h3⟩, _⟩ := hpa y hy
          have hyP : y.1 ∈ P := List.mem_of_mem_take (hps ▸ List.mem_map_of_mem hy : y.1 ∈ P.take k)
          obtain ⟨i, hi⟩ := List.getElem?_of_mem hyP
          obtain ⟨_, _, _, _, _, hsz, _⟩ := HV.out.1 i y.1 hi
          exact ⟨hsz, L, B, h1, h3, fun q a _ => by omega⟩
        rw [hps, List.take_of_length_le (by have := HV.out.2.1; omega)] at hfs
        have hyP : ys.map Prod.fst = P := by rw [hps, List.take_of_length_le (by have := HV.out.2.1; omega)]
        refine ⟨some ⟨g, 0, none⟩, k, rfl, Lib.hid ⟨HV.out.2.1, hfs, fun _ => ⟨g, 0, rfl, (let ⟨cur, h, _⟩ := hf; ⟨cur, h⟩), fun j x hx => ?_⟩⟩, hb⟩
        rw [← hyP, List.getElem?_map] at hx
        obtain ⟨y, hy, rfl⟩ := Option.map_eq_some_iff.1 hx
        obtain ⟨_, _, t1, _, t2⟩ := hpa y (List.mem_of_getElem? hy)
        refine ⟨y.2.1, y.2.2, fun r u hu => ?_, t1, t2⟩
        have hr : r < 5 := by
          rcases Nat.lt_or_ge r 5 with h | h
          · exact h
          · rw [List.getElem?_eq_none (by simpa [fc] using h)] at hu; cases hu
        have hj := (List.getElem?_eq_some_iff.1 hy).1
        rw [show 0 + j * 5 + r = j * 5 + r by omega, hown.cellAt (j * 5 + r) (by omega), fcs_at ys hy r hr]
        exact hu
      have HF := Lib.hid hfin
      clear hfin hf hpa hb hps hpl
      go_wp2_with fail
      go_ret
      exact HF.out
theorem waits_any {F : Nat → Prop} {w : World} {nb : Nat} {room : Int} {P : List Fr} (h : IN 81 35 F w nb room P) (hP : ∀ y ∈ P, okF y) (hPl : P.length ≤ 1759218604390) (k : Nat) (hk : P.length = k) :
    Calls Try.prog 19 #[hd nb] w (NewFs P k w) := by
  obtain ⟨Aw, cw, nw, l, e, hS⟩ := h
  have hnk : nw = k := by rw [← hS.2.1.1, ← hk, ← e, List.length_map]
  have hfs := hS.fs
  rw [e] at hfs
  have z1 := (hS.1.1.cell 1).trans rfl
  have hL := list_far Aw cw nw P (by rw [hnk]; exact hk) w hfs hP (by omega)
  have HL := Lib.hid hL
  have HN := Lib.hid hnk
  clear hL hnk hk hS e hfs hP
  go_enter Try.func19, Try.ntmps19
  go_wp2_with fail
  refine HL.out.mono ?_
  rintro e w2 ⟨A1, c1, rfl, h2, b2⟩
  go_wp2_with fail
  go_ret
  have hn := HN.out
  subst hn
  exact ⟨A1, c1, rfl, h2, b2⟩
end Inbox
end Go.Proofs.Ytiempgabamheiaa
