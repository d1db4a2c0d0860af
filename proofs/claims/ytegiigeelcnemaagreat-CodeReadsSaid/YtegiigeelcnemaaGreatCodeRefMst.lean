/-
  firthref06: the reader of addresses; where a message is while the document's reader takes it.
-/
import Derived.Test.YtegiigeelcnemaaGreatCodeRefRec
import Derived.Test.YtegiigeelcnemaaGreatCodeRefRecPlain
import Derived.Deep.AppendLies
import Derived.Deep.RegionLaw
namespace Go.Proofs.YtegiigeelcnemaaGreat
namespace Code
open Go.RowKit Num Span Vers
attribute [local go_sem ↓] Go.wp_at_zero Go.wp_at_succ

/-! ### One thing behind another -/
theorem One.pair {α β : Type} {P : Nat → Option (α × Nat)} {Q : Nat → Option (β × Nat)} {p p1 p2 : Nat} {bad b1 b2 : Bool} {x : α} {y : β} (h1 : One P p bad x p1 b1) (h2 : One Q p1 b1 y p2 b2) : One (pairP P Q) p bad (x, y) p2 b2 := by
  rcases h2 with ⟨e2, e1, hy⟩ | ⟨e2, hy⟩
  · obtain ⟨e0, hx⟩ := h1.some e1
    exact .inl ⟨e2, e0, pairP_some hx hy⟩
  · refine .inr ⟨e2, ?_⟩
    rcases h1 with ⟨e1, e0, hx⟩ | ⟨e1, hx⟩
    · rcases hy with e | e
      · rw [e1] at e; cases e
      · exact .inr (pairP_none2 hx e)
    · rcases hx with e | e
      · exact .inl e
      · exact .inr (pairP_none e)
/-- A list: how many, then they. -/
theorem one_list {α : Type} {P : Nat → Option (α × Nat)} {zs : List Int} {p p1 r M k : Nat} {bad b1 b : Bool} {l : List α}
    (hc : (b1 = false ∧ bad = false ∧ cntP zs p = some ((M : Int), p1)) ∨ (b1 = true ∧ gd bad (cntP zs p) = none))
    (hg : b = false → b1 = false ∧ Taking P M p1 k l r) (hd : b = true → b1 = true ∨ listP P M p1 = none) (hk : b = false → k = M) : One (cseqP P zs) p bad l r b := by
  rcases hb : b with _ | _
  · obtain ⟨e1, hT⟩ := hg hb
    rw [hk hb] at hT
    rcases hc with ⟨_, e0, hc⟩ | ⟨e, _⟩
    · refine .inl ⟨rfl, e0, ?_⟩
      unfold cseqP
      rw [hc]
      simp only [Int.toNat_natCast]
      exact taking_end hT
    · rw [e1] at e; cases e
  · refine .inr ⟨rfl, ?_⟩
    rcases hc with ⟨e1, e0, hc⟩ | ⟨_, hc⟩
    · rcases hd hb with e | e
      · rw [e1] at e; cases e
      · refine .inr ?_
        unfold cseqP
        rw [hc]
        simp only [Int.toNat_natCast]
        exact e
    · rcases gd_none hc with e | e
      · exact .inl e
      · refine .inr ?_
        unfold cseqP
        rw [e]
theorem hshP_one {zs : List Int} {p p1 p2 : Nat} {b1 b2 : Bool} {x y : Int} (h1 : One (numP zs) p false x p1 b1) (h2 : One (numP zs) p1 b1 y p2 b2) :
    (b2 = true → hshP zs p = none) ∧ (b2 = false → hshP zs p = if x ≤ 4294967295 ∧ y ≤ 4294967295 then some (x * 4294967296 + y, p2) else none) := by
  constructor
  · intro e
    rcases h2.none e with e1 | hy
    · rcases h1.none e1 with e0 | hx
      · cases e0
      · unfold hshP upP
        rw [hx]
    · rcases h1 with ⟨_, _, hx⟩ | ⟨e1, hx⟩
      · unfold hshP upP
        rw [hx]
        simp only
        by_cases h : x ≤ 4294967295
        · rw [if_pos h]
          simp only
          rw [hy]
        · rw [if_neg h]
      · rcases hx with e0 | hx
        · cases e0
        · unfold hshP upP
          rw [hx]
  · intro e
    obtain ⟨e1, hy⟩ := h2.some e
    obtain ⟨_, hx⟩ := h1.some e1
    unfold hshP upP
    rw [hx]
    simp only
    by_cases h : x ≤ 4294967295
    · rw [if_pos h]
      simp only
      rw [hy]
      simp only
      by_cases h' : y ≤ 4294967295
      · rw [if_pos h', if_pos ⟨h, h'⟩]
      · rw [if_neg h', if_neg (fun z => h' z.2)]
    · rw [if_neg h, if_neg (fun z => h z.1)]

/-! ### Addresses -/
set_option maxRecDepth 100000 in
theorem qaddr_one (R : Nat) (A : Option Addr) (c n p : Nat) (bad : Bool) (zs : List Int) (w : World) (hs : Src R A c n zs w) (hr : Rq R A c n p bad w) (hp : p ≤ n) :
    Calls Tryz.prog 49 #[.pointer (some ⟨R, 0, none⟩)] w (fun e w' => ∃ (x y : Int) (p' : Nat) (b' : Bool), e = .returned (.agg #[.int .i64 x, .int .i64 y]) ∧ Rq R A c n p' b' w' ∧ p' ≤ n ∧ w.grownBy w' (some R) ∧ One (addrQ zs) p bad (x, y) p' b') := by
  have hlt := hr.lt
  obtain ⟨B, hB⟩ : ∃ B, w.heap.size = B := ⟨_, rfl⟩
  obtain ⟨W, hW⟩ : ∃ W, w.alloc (.cells #[.int .i64 0, .int .i64 0] 40) = W := ⟨_, rfl⟩
  have hgW : w.grownBy W (some R) := by rw [← hW]; exact World.grownBy_alloc _ _ _
  have hX : Bn B 40 [.int .i64 0, .int .i64 0] W := by rw [← hW, ← hB]; exact heap_alloc_new _ _
  have hRB : R < B := by omega
  have h1 := qnum_one R A c n p bad zs W (hs.kept hgW hlt) (by rw [← hW]; exact hr.kept (World.grownBy_alloc _ _ none) (by simp)) hp
  have H1 := Lib.hid h1
  have HS := Lib.hid (And.intro hs (And.intro hgW hX))
  have HW := Lib.hid hW
  have HBB := Lib.hid hB
  clear h1 hs hr hgW hX hW hB
  go_enter Tryz.func49, Tryz.ntmps49
  go_wp2_with fail
  rw [HW.out]
  refine H1.out.mono ?_
  rintro e w1 ⟨x1, p1, b1, rfl, hr1, hn1, hg1, hx1, hone1⟩
  have hg1' := grown_trans HS.out.2.1 hg1
  have h2 := qnum_one R A c n p1 b1 zs w1 (HS.out.1.kept hg1' hlt) hr1 hn1
  have H2 := Lib.hid h2
  have HV := Lib.hid (And.intro hg1' (And.intro (HS.out.2.2.kept hg1 (by simp; omega)) (num1_one hone1)))
  clear h2 hg1' hr1 hg1 hone1 H1
  go_wp2_with fail
  refine H2.out.mono ?_
  rintro e w2 ⟨x2, p2, b2, rfl, hr2, hn2, hg2, hx2, hone2⟩
  have hX2 := HV.out.2.1.kept hg2 (by simp; omega)
  have hg2' := grown_trans HV.out.1 hg2
  have k0 := hX2.cell 0
  have f0 := hX2.frozen 0
  have k1 := hX2.cell 1
  have f1 := hX2.frozen 1
  simp only [List.getElem?_cons_zero, List.getElem?_cons_succ] at k0 k1
  obtain ⟨Y, hY⟩ : ∃ Y, w2.setCells B 0 [.int .i64 x1, .int .i64 x2] = Y := ⟨_, rfl⟩
  have hgY : w2.grownBy Y (some B) := by rw [← hY]; exact setCells_grown _ _ _ _
  have y1 : Bn B 40 [.int .i64 x1, .int .i64 x2] Y := by rw [← hY]; exact setCells_all (old := [.int .i64 0, .int .i64 0]) rfl hX2
  have hY' : (w2.setCell ⟨B, 0, none⟩ (.int .i64 x1)).setCell ⟨B, 1, none⟩ (.int .i64 x2) = Y := hY
  have m0 := y1.cell 0
  have m1 := y1.cell 1
  simp only [List.getElem?_cons_zero, List.getElem?_cons_succ] at m0 m1
  have hfin : Rq R A c n p2 b2 Y ∧ p2 ≤ n ∧ w.grownBy Y (some R) ∧ One (addrQ zs) p bad (x1, x2) p2 b2 :=
    ⟨hr2.kept hgY (by simp; omega), hn2, grown_own hg2' hgY (fun k hk => by injection hk with hk; have := HBB.out; omega), HV.out.2.2.pair (num1_one hone2)⟩
  have HE := Lib.hid hfin
  have hBt := HBB.out
  clear hfin hr2 hg2 hg2' hX2 hY hgY y1 hone2 H2
  rw [hBt]
  clear hBt
  go_wp2_with fail
  refine bodyPost_ret (v := .agg #[.int .i64 x1, .int .i64 x2]) ?_ rfl ?_
  · rw [results_cell1 rfl]
    go_simp
  · exact ⟨x1, x2, p2, b2, rfl, HE.out⟩

/-! ### A message while it is taken -/
theorem results_row_tmp {P : Program} {fn : Func} {p q : Tmp} {ty : TypeId} (h : fn.results = #[.cell p ty, .tmp q]) (tmps : Array Value) (w : World) (g : Nat) (t : TypeId) (cs : Array Value) (fr : Nat × Nat) (d : TypeDesc)
    (hp : tmps.getD p undef = .pointer (some ⟨g, 0, none⟩)) (hg : w.heap[g]? = some (.cells cs t fr))
    (hu : P.underlying ty = some d) (hd : (match d with | .struct _ | .array _ _ => true | _ => false) = true) (hi : (P.info? ty).map (·.size) = some cs.size) :
    (results fn tmps).run P w = .ok (.tuple #[.agg cs, tmps.getD q undef]) w := by
  have hp' : tmps[p]?.getD undef = .pointer (some ⟨g, 0, none⟩) := by simpa using hp
  simp [results, h, hp', asAddr, run_loadVar_row w g t ty cs fr d hg hu hd hi]
theorem Src.kept2 {w w' : World} {g n c : Nat} {A : Option Addr} {zs : List Int} {row : Option Nat} (h : Src g A c n zs w) (hg : w.grownBy w' row) (hlt : g < w.heap.size) (hr : ∀ k, row = some k → g ≤ k) : Src g A c n zs w' :=
  ⟨h.1.grown hg (by omega) hr, h.2⟩
/-- Where a message is while the document's reader takes it: the reader, all that was there, the result's block, the message's block, what was made by now. -/
def Mst (base : Nat) (w : World) (R : Nat) (A : Option Addr) (c n : Nat) (zs : List Int) (B0 Bo : Nat) (z cs : List Value) (O : World → Prop) (r : Nat) (b : Bool) (V : World) : Prop :=
  (Src R A c n zs V ∧ Rq R A c n r b V ∧ Below base w V) ∧ (Bn B0 45 z V ∧ Bn Bo 45 cs V) ∧ (O V ∧ Clo (Bo + 1) O) ∧ (base ≤ B0 ∧ B0 < R ∧ R < Bo ∧ base ≤ w.heap.size)
section
variable {base R c n B0 Bo r r' : Nat} {A : Option Addr} {zs : List Int} {w V V' U : World} {z cs : List Value} {O O' : World → Prop} {b b' : Bool}
theorem Mst.size (h : Mst base w R A c n zs B0 Bo z cs O r b V) : Bo + 1 ≤ V.heap.size := h.2.1.2.lt
theorem Mst.grown {row : Option Nat} (h : Mst base w R A c n zs B0 Bo z cs O r b V) (hg : V.grownBy V' row) (hr : Rq R A c n r' b' V') (hO : O V') (hrow : ∀ k, row = some k → R ≤ k ∧ k ≠ Bo) : Mst base w R A c n zs B0 Bo z cs O r' b' V' := by
  obtain ⟨⟨h1, h2, h3⟩, ⟨h4, h5⟩, ⟨h6, h7⟩, h8⟩ := h
  have hl := h5.lt
  exact ⟨⟨h1.kept2 hg (by omega) fun k hk => (hrow k hk).1, hr, h3.grown hg (Nat.le_trans h8.2.2.2 h3.size) fun k hk => by have := (hrow k hk).1; omega⟩, ⟨h4.kept hg fun e => by have := (hrow _ e.symm).1; omega, h5.kept hg fun e => (hrow _ e.symm).2 rfl⟩, ⟨hO, h7⟩, h8⟩
theorem Mst.call (h : Mst base w R A c n zs B0 Bo z cs O r b V) (hg : V.grownBy V' (some R)) (hr : Rq R A c n r' b' V') : Mst base w R A c n zs B0 Bo z cs O r' b' V' := by
  have h8 := h.2.2.2
  have h6 := h.2.2.1
  exact h.grown hg hr (h6.2 _ _ h6.1 hg.size (grown_keep hg (by omega))) (fun k hk => by injection hk with hk; omega)
theorem Mst.same (h : Mst base w R A c n zs B0 Bo z cs O r b V) (hg : V.grownBy V' none) : Mst base w R A c n zs B0 Bo z cs O r b V' := by
  have h6 := h.2.2.1
  exact h.grown hg (h.1.2.1.kept hg (by simp)) (h6.2 _ _ h6.1 hg.size fun k _ hk => hg.block k hk (by simp)) (fun k hk => by cases hk)
theorem Mst.alloc (h : Mst base w R A c n zs B0 Bo z cs O r b V) (o : Obj) : Mst base w R A c n zs B0 Bo z cs O r b (V.alloc o) := h.same (World.grownBy_alloc _ _ _)
theorem Mst.drew (h : Mst base w R A c n zs B0 Bo z cs O r b V) : Mst base w R A c n zs B0 Bo z cs O r b V.drew := h.same (grown_drew (World.grownBy.refl _ _))
theorem Mst.drewN (h : Mst base w R A c n zs B0 Bo z cs O r b V) (k : Nat) : Mst base w R A c n zs B0 Bo z cs O r b (V.drewN k) := h.same (grown_drewN (World.grownBy.refl _ _) k)
theorem Mst.set (h : Mst base w R A c n zs B0 Bo z cs O r b V) (k : Nat) (v : Value) : Mst base w R A c n zs B0 Bo z (cs.set k v) O r b (V.setCell ⟨Bo, k, none⟩ v) := by
  obtain ⟨⟨h1, h2, h3⟩, ⟨h4, h5⟩, ⟨h6, h7⟩, h8⟩ := h
  have hl := h5.lt
  have hg := grown_set1 V Bo k v
  exact ⟨⟨h1.kept2 hg (by omega) fun j hj => by injection hj with hj; omega, h2.kept hg (by simp; omega), h3.grown hg (Nat.le_trans h8.2.2.2 h3.size) fun j hj => by injection hj with hj; omega⟩, ⟨h4.kept hg (by simp; omega), h5.set k v⟩, ⟨h7 _ _ h6 hg.size (grown_keep hg (by omega)), h7⟩, h8⟩
theorem Mst.bad (h : Mst base w R A c n zs B0 Bo z cs O r b V) : Mst base w R A c n zs B0 Bo z cs O r true (V.setCell ⟨R, 2, none⟩ (.bool true)) := h.call (grown_set1 _ _ _ _) (h.1.2.1.set2 _)
/-- All that was made by U stays. -/
def KeepU (Bo : Nat) (U V : World) : Prop := U.heap.size ≤ V.heap.size ∧ ∀ j, Bo + 1 ≤ j → j < U.heap.size → V.heap[j]? = U.heap[j]?
theorem keepU_refl (Bo : Nat) (U : World) : KeepU Bo U U := ⟨Nat.le_refl _, fun _ _ _ => rfl⟩
theorem clo_keepU : Clo (Bo + 1) (KeepU Bo U) := fun _ _ hx hs hk => ⟨Nat.le_trans hx.1 hs, fun j h1 h2 => (hk j h1 (Nat.lt_of_lt_of_le h2 hx.1)).trans (hx.2 j h1 h2)⟩
theorem Mst.swap (h : Mst base w R A c n zs B0 Bo z cs O r b V) (hO : O' V) (hc : Clo (Bo + 1) O') : Mst base w R A c n zs B0 Bo z cs O' r b V := ⟨h.1, h.2.1, ⟨hO, hc⟩, h.2.2.2⟩
/-- While a list of numbers is taken. -/
def Lst (base : Nat) (w : World) (R : Nat) (A : Option Addr) (c n : Nat) (zs : List Int) (B0 Bo : Nat) (z cs : List Value) (U : World) (T : TypeId) (v : Value) (k : Nat) (vals : List Value) (r : Nat) (b : Bool) (V : World) : Prop :=
  Mst base w R A c n zs B0 Bo z cs (KeepU Bo U) r b V ∧ V.ownsRow U.heap.size T 1 v k vals ∧ Bo < U.heap.size
variable {T : TypeId} {v v' : Value} {k k' : Nat} {vals vals' : List Value}
theorem Lst.start (h : Mst base w R A c n zs B0 Bo z cs O r b U) (T : TypeId) : Lst base w R A c n zs B0 Bo z cs U T (.slice none 0 0) 0 [] r b U := ⟨h.swap (keepU_refl _ _) clo_keepU, World.ownsRow_nil _ _ _ _, h.size⟩
theorem Lst.call (h : Lst base w R A c n zs B0 Bo z cs U T v k vals r b V) (hg : V.grownBy V' (some R)) (hr : Rq R A c n r' b' V') : Lst base w R A c n zs B0 Bo z cs U T v k vals r' b' V' :=
  ⟨h.1.call hg hr, h.2.1.kept hg (own_apart h.2.1 (by have := h.2.2; have := h.1.2.2.2; omega)), h.2.2⟩
theorem Lst.alloc (h : Lst base w R A c n zs B0 Bo z cs U T v k vals r b V) (o : Obj) : Lst base w R A c n zs B0 Bo z cs U T v k vals r b (V.alloc o) := ⟨h.1.alloc o, h.2.1.alloc o, h.2.2⟩
theorem Lst.drew (h : Lst base w R A c n zs B0 Bo z cs U T v k vals r b V) : Lst base w R A c n zs B0 Bo z cs U T v k vals r b V.drew := ⟨h.1.drew, h.2.1, h.2.2⟩
theorem Lst.drewN (h : Lst base w R A c n zs B0 Bo z cs U T v k vals r b V) (j : Nat) : Lst base w R A c n zs B0 Bo z cs U T v k vals r b (V.drewN j) := ⟨h.1.drewN j, h.2.1, h.2.2⟩
theorem Lst.bad (h : Lst base w R A c n zs B0 Bo z cs U T v k vals r b V) : Lst base w R A c n zs B0 Bo z cs U T v k vals r true (V.setCell ⟨R, 2, none⟩ (.bool true)) := h.call (grown_set1 _ _ _ _) (h.1.1.2.1.set2 _)
theorem Lst.app (h : Lst base w R A c n zs B0 Bo z cs U T v k vals r b V) (gr : V.grownBy V' v.ownBlock) (o : V'.ownsRow U.heap.size T 1 v' k' vals') : Lst base w R A c n zs B0 Bo z cs U T v' k' vals' r b V' := by
  have h2 := h.2.2
  have h8 := h.1.2.2.2
  have hK := h.1.2.2.1.1
  have hj : ∀ j, v.ownBlock = some j → U.heap.size ≤ j := fun j hj => (h.2.1.lt j hj).1
  refine ⟨h.1.grown gr (h.1.1.2.1.kept gr fun e => by have := hj _ e.symm; omega) ⟨Nat.le_trans hK.1 gr.size, fun j h3 h4 => (gr.block j (Nat.lt_of_lt_of_le h4 hK.1) fun e => by have := hj _ e.symm; omega).trans (hK.2 j h3 h4)⟩ (fun j e => by have := hj _ e; omega), o, h2⟩
theorem Lst.set (h : Lst base w R A c n zs B0 Bo z cs U T v k vals r b V) (i : Nat) (x : Value) : Lst base w R A c n zs B0 Bo z (cs.set i x) U T v k vals r b (V.setCell ⟨Bo, i, none⟩ x) :=
  ⟨h.1.set i x, h.2.1.kept (grown_set1 _ _ _ _) (own_apart h.2.1 h.2.2), h.2.2⟩
theorem Lst.done {cs0 : List Value} {r0 : Nat} {b0 : Bool} (hM : Mst base w R A c n zs B0 Bo z cs0 O r0 b0 U) (h : Lst base w R A c n zs B0 Bo z cs U T v k vals r b V) : Mst base w R A c n zs B0 Bo z cs (fun x => O x ∧ x.ownsRow (Bo + 1) T 1 v k vals) r b V := by
  have hO := hM.2.2.1
  have hK := h.1.2.2.1.1
  have h2 := h.2.2
  exact h.1.swap ⟨hO.2 _ _ hO.1 hK.1 hK.2, own_base h.2.1 (by omega)⟩ (clo_and hO.2 (clo_own (Nat.le_refl _) _ _ _ _ _))
/-- While the records are taken. -/
def LsR (base : Nat) (w : World) (R : Nat) (A : Option Addr) (c n : Nat) (zs : List Int) (B0 Bo : Nat) (z cs : List Value) (U : World) (v : Value) (ps : List Pr) (r : Nat) (b : Bool) (V : World) : Prop :=
  Mst base w R A c n zs B0 Bo z cs (KeepU Bo U) r b V ∧ RowR U.heap.size V.heap.size V v ps ∧ Bo < U.heap.size
variable {ps ps' : List Pr}
theorem LsR.start (h : Mst base w R A c n zs B0 Bo z cs O r b U) : LsR base w R A c n zs B0 Bo z cs U (.slice none 0 0) [] r b U := ⟨h.swap (keepU_refl _ _) clo_keepU, rowR_nil _ _ _, h.size⟩
theorem LsR.drew (h : LsR base w R A c n zs B0 Bo z cs U v ps r b V) : LsR base w R A c n zs B0 Bo z cs U v ps r b V.drew := ⟨h.1.drew, h.2.1.keep fun _ _ _ => rfl, h.2.2⟩
theorem LsR.done {cs0 : List Value} {r0 : Nat} {b0 : Bool} (hM : Mst base w R A c n zs B0 Bo z cs0 O r0 b0 U) (h : LsR base w R A c n zs B0 Bo z cs U v ps r b V) : Mst base w R A c n zs B0 Bo z cs (fun x => O x ∧ RowR (Bo + 1) x.heap.size x v ps) r b V := by
  have hO := hM.2.2.1
  have hK := h.1.2.2.1.1
  have h2 := h.2.2
  exact h.1.swap ⟨hO.2 _ _ hO.1 hK.1 hK.2, h.2.1.less (by omega)⟩ (clo_and hO.2 (clo_rowR (Nat.le_refl _) _ _))
/-- One record more. -/
theorem LsR.add {V1 V2 V3 : World} {p : Pr} {A' : Option Addr} {c' i k : Nat} (h : LsR base w R A c n zs B0 Bo z cs U v ps r b V) (hk : ps.length = k) (hg : V.grownBy V1 (some R)) (hr : Rq R A c n r' b' V1) (hp : RecO V1 V.heap.size V1.heap.size p) (o : Obj) (hV : V1.alloc o = V2)
    (o3 : V3.ownsRow U.heap.size 24 2 (.slice A' (k + 1) c') (k + 1) (rcs ps ++ rcc p)) (gr : V2.grownBy V3 v.ownBlock) (hat : (Value.slice A' (k + 1) c').ownBlock = v.ownBlock ∨ ∃ g, (Value.slice A' (k + 1) c').ownBlock = some g ∧ V2.heap.size ≤ g) :
    LsR base w R A c n zs B0 Bo z (cs.set i (.slice A' (k + 1) c')) U (.slice A' (k + 1) c') (ps ++ [p]) r' b' (V3.setCell ⟨Bo, i, none⟩ (.slice A' (k + 1) c')) := by
  subst hk
  obtain ⟨hM, hR, hU⟩ := h
  have h8 := hM.2.2.2
  have hK := hM.2.2.1.1
  have hg2 : V1.grownBy V2 none := by rw [← hV]; exact World.grownBy_alloc _ _ _
  have hM2 := (hM.call hg hr).same hg2
  have hj : ∀ j, v.ownBlock = some j → U.heap.size ≤ j := fun j hj => (hR.1.lt j hj).1
  have hK2 := hM2.2.2.1.1
  have hM3 := hM2.grown gr (hM2.1.2.1.kept gr fun e => by have := hj _ e.symm; omega) ⟨Nat.le_trans hK2.1 gr.size, fun j h3 h4 => (gr.block j (Nat.lt_of_lt_of_le h4 hK2.1) fun e => by have := hj _ e.symm; omega).trans (hK2.2 j h3 h4)⟩ (fun j e => by have := hj _ e; omega)
  have hM4 := hM3.set i (.slice A' (ps.length + 1) c')
  have hRow : RowR U.heap.size V3.heap.size V3 (.slice A' (ps.length + 1) c') (ps ++ [p]) := by
    refine hR.add (w1 := V2) (fun j h1 h2 => (hg2.block j (Nat.lt_of_lt_of_le h2 hg.size) (by simp)).trans (hg.block j h2 fun e => by injection e with e; omega)) (Nat.le_trans hg.size hg2.size) ?_ hK.1 (by rw [rcs_append, rcs_one]; exact o3) gr hat
    obtain ⟨p1, qs, p2, p3⟩ := hp
    exact ⟨p1, qs, p2, (p3.keep fun j _ h2 => hg2.block j h2 (by simp)).more hg2.size⟩
  have hgs := grown_set1 V3 Bo i (.slice A' (ps.length + 1) c')
  exact ⟨hM4, (hRow.keep (grown_keep hgs hU)).more hgs.size, hU⟩
/-- The same, as an append tells it. -/
theorem LsR.add2 {V1 V3 : World} {rk : ByteArray} {rl : List Vr} {A5 : Option Addr} {c5 m5 g7 cap7 i k : Nat} {S : Prop} {o : Obj} (h : LsR base w R A c n zs B0 Bo z cs U v ps r b V) (hk : ps.length = k) (hg : V.grownBy V1 (some R)) (hr : Rq R A c n r' b' V1) (hH : Hid (rl.length = m5 ∧ RcO V.heap.size V1 (rk, rl) (A5, c5) ∧ S))
    (o3 : V3.ownsRow U.heap.size 24 2 (.slice (some ⟨g7, 0, none⟩) (k + 1) cap7) (k + 1) (rcs ps ++ [.string rk, .slice A5 m5 c5])) (gr : (V1.alloc o).grownBy V3 v.ownBlock) (hat : v.ownBlock = some g7 ∨ g7 = V1.heap.size + 1) :
    LsR base w R A c n zs B0 Bo z (cs.set i (.slice (some ⟨g7, 0, none⟩) (k + 1) cap7)) U (.slice (some ⟨g7, 0, none⟩) (k + 1) cap7) (ps ++ [((rk, rl), A5, c5)]) r' b' (V3.setCell ⟨Bo, i, none⟩ (.slice (some ⟨g7, 0, none⟩) (k + 1) cap7)) := by
  refine h.add (p := ((rk, rl), A5, c5)) hk hg hr hH.out.2.1 o rfl ?_ gr ?_
  · unfold rcc
    simp only
    rw [hH.out.1]
    exact o3
  · rcases hat with e | e
    · exact .inl e.symm
    · exact .inr ⟨g7, rfl, by rw [World.size_alloc]; omega⟩
end
end Code
end Go.Proofs.YtegiigeelcnemaaGreat
