/-
  drop: those that wait are parted by a closure, at most so many being taken out.
-/
import Derived.Test.YtiempgabamheiaaInboxTake
import Derived.RangeFuncBox
namespace Go.Proofs.Ytiempgabamheiaa
namespace Inbox
open Go.RowKit Vers Span Blk
attribute [local go_sem ↓] Go.wp_at_zero Go.wp_at_succ

section
variable {Pg : Program} (w : World)
/-- append of one far write that was just laid in a block of its own, onto a row of the call's own. -/
theorem wpList_append_f {ops : Array Oper} {rest : List Oper} {o : Oper} {a : Act} {Q : Exit → Act → World → Prop} (hgd : o.guard = none) (s x : Operand) (t : TypeId)
    (ho : o.op = .call { callee := .builtin .append, args := #[s, x], argTypes := #[t, t] })
    (base : Nat) (e : TypeId) (i : TypeInfo) (z : Value) (bytes : Nat) (ht : Pg.underlying t = some (.slice e)) (hi : Pg.info? e = some i) (hz : i.zero = some z)
    (hsize : i.size = 5) (hby : i.bytes = bytes) (hzs : z.cells.size = 5)
    (v : Value) (n : Nat) (l : List FE) (hs : a.eval s = v) (hown : w.ownsRow base e 5 v n (fcs l)) (p : FE) (m k : Nat) (hm : p.1.2.1.2.length = m) (hk : p.1.2.2.length = k) (c : Nat)
    (hx : a.eval x = .slice (some ⟨w.heap.size, 0, none⟩) 1 c)
    (hbytes : (n + 1) * bytes ≤ 140737488355328) (hn : n + 1 ≤ 140737488355328) (hbase : base ≤ w.heap.size)
    (h : ∀ v' w', w'.ownsRow base e 5 v' (n + 1) (fcs (l ++ [p])) → w.grownBy w' v.ownBlock → (v'.ownBlock = v.ownBlock ∨ ∃ g, v'.ownBlock = some g ∧ w.heap.size ≤ g) → wpList Pg ops Q rest (a.put o.dst v') w') :
    wpList Pg ops Q (o :: rest) a (w.alloc (.cells #[.int .i64 p.1.1.1, .int .i64 p.1.1.2, .string p.1.2.1.1, .slice p.2.1.1 m p.2.1.2, .slice p.2.2.1 k p.2.2.2] e)) := by
  subst hk
  subst hm
  refine wpList_append_own_at _ hgd s x t ho base e i z 5 bytes ht hi hz hsize hby hzs (by omega) v n (fcs l) hs (hown.alloc _) ⟨w.heap.size, 0, none⟩ 1 c (fc p) hx rfl ?_ ?_ (by unfold maxLen; omega) hbytes (by simp; omega) ?_
  · intro j u' hj
    match j, hj with
    | 0, hj => simp [fc] at hj; subst hj; simp [Addr.add]
    | 1, hj => simp [fc] at hj; subst hj; simp [Addr.add]
    | 2, hj => simp [fc] at hj; subst hj; simp [Addr.add]
    | 3, hj => simp [fc] at hj; subst hj; simp [Addr.add]
    | 4, hj => simp [fc] at hj; subst hj; simp [Addr.add]
  · intro u' hu
    exact fcs_cell [p] u' (by rw [fcs_one]; exact hu)
  · intro v' w' hown' hg _ hat
    refine h v' w' ?_ ?_ ?_
    · rw [fcs_append, fcs_one]; exact hown'
    · exact ⟨hg.os, hg.tape, hg.output, Nat.le_trans (by simp) hg.size, fun k hk hne => (hg.block k (by simp; omega) hne).trans (Below.heap_alloc w _ k hk)⟩
    · rcases hat with h1 | h1
      · exact .inl h1
      · exact .inr ⟨_, h1, by simp⟩
end

/-- Two rows of the call's own, in two blocks. -/
def Two (e : TypeId) (base : Nat) (wr : World) (vo vs : Value) (o s : List FE) : Prop :=
  wr.ownsRow base e 5 vo o.length (fcs o) ∧ wr.ownsRow base e 5 vs s.length (fcs s) ∧ ∀ g, vo.ownBlock = some g → vs.ownBlock ≠ some g
section
variable {e : TypeId} {base : Nat} {wr w' W : World} {vo vs v' : Value} {o s : List FE} {x : FE}
theorem Two.nil : Two e base wr (.slice none 0 0) (.slice none 0 0) [] [] := ⟨World.ownsRow_nil _ _ _ _, World.ownsRow_nil _ _ _ _, fun g h => by cases h⟩
theorem Two.swap (h : Two e base wr vo vs o s) : Two e base wr vs vo s o := ⟨h.2.1, h.1, fun g h1 h2 => h.2.2 g h2 h1⟩
theorem Two.below (h : Two e base wr vo vs o s) (hb : Below wr.heap.size wr w') : Two e base w' vo vs o s := ⟨own_below h.1 hb (Nat.le_refl _), own_below h.2.1 hb (Nat.le_refl _), h.2.2⟩
theorem Two.add (h : Two e base wr vo vs o s) (ho : w'.ownsRow base e 5 v' (o.length + 1) (fcs (o ++ [x]))) (hg : wr.grownBy w' vo.ownBlock) (hat : v'.ownBlock = vo.ownBlock ∨ ∃ g, v'.ownBlock = some g ∧ wr.heap.size ≤ g) : Two e base w' v' vs (o ++ [x]) s := by
  refine ⟨by simpa using ho, own_keep h.2.1 fun g hg' => hg.block g (h.2.1.lt g hg').2 fun q => h.2.2 g q.symm hg', fun g h1 h2 => ?_⟩
  rcases hat with q | ⟨g', q, hge⟩
  · exact h.2.2 g (q ▸ h1) h2
  · rw [h1] at q
    injection q with q
    have := (h.2.1.lt g h2).2
    omega
end
/-- What drop answers and leaves. -/
def DropPost (F : Nat → Prop) (nb : Nat) (room : Int) (o s : List FE) (w : World) (r : Ending) (w' : World) : Prop :=
  ∃ A1 c1, r = .returned (.slice A1 o.length c1) ∧ Hid (w'.ownsRow w.heap.size 35 5 (.slice A1 o.length c1) o.length (fcs o) ∧ (∃ A' c' F', IO 81 35 F' w' nb room A' c' s.length s ∧ Stp F w F' w') ∧ Chg (fun k => k = nb) w w')
/-- The loop of drop. -/
def Dropping (most : Int) (p : FE → Bool) (l : List FE) (n : Nat) (w : World) (vo vs q : Value) (wr : World) : Prop :=
  ∃ (j no ns : Nat) (Ao : Option Addr) (co : Nat) (As : Option Addr) (cs : Nat), vo = .slice Ao no co ∧ vs = .slice As ns cs ∧ q = .int .i64 j ∧ j ≤ n ∧ no ≤ j ∧ ns ≤ j ∧
    Hid ((dropF most p (l.take j)).1.length = no ∧ (dropF most p (l.take j)).2.length = ns ∧ Two 35 w.heap.size wr (.slice Ao no co) (.slice As ns cs) (dropF most p (l.take j)).1 (dropF most p (l.take j)).2 ∧ Below w.heap.size w wr)

set_option maxRecDepth 100000 in
set_option maxHeartbeats 4000000 in
theorem drop_any {F : Nat → Prop} {w : World} {nb : Nat} {room : Int} {A : Option Addr} {c n : Nat} {l : List FE} (hS : IO 81 35 F w nb room A c n l) (hPl : n ≤ 1759218604390) (most : Int) (fid : FuncId) (hcf : ∀ (a : Array Value) (W : World), (callFunc fid a).run Try.prog W = .ok (.enter fid a) W) (cap : Value) (p : FE → Bool)
    (hK : ∀ W, Below w.heap.size w W → ∀ x ∈ l, ∀ m k, x.1.2.1.2.length = m → x.1.2.2.length = k → Calls Try.prog fid #[.agg #[.int .i64 x.1.1.1, .int .i64 x.1.1.2, .string x.1.2.1.1, .slice x.2.1.1 m x.2.1.2, .slice x.2.2.1 k x.2.2.2], cap] W (fun e w' => e = .returned (.bool (p x)) ∧ Below W.heap.size W w')) :
    Calls Try.prog 39 #[hd nb, .int .i64 most, .func (.func fid) #[] #[cap]] w (DropPost F nb room (dropF most p l).1 (dropF most p l).2 w) := by
  obtain ⟨i0, hi0, hz0, hz1, hz2⟩ := info_parts info_far
  have HI := Lib.hid (And.intro hi0 (And.intro hz0 (And.intro hz1 hz2)))
  have z1 := (hS.1.1.cell 1).trans rfl
  have HS := Lib.hid hS
  have HK := Lib.hid hK
  have hln : l.length = n := hS.2.1.1
  have HLN := Lib.hid hln
  have HI0 : Hid (Dropping most p l n w (.slice none 0 0) (.slice none 0 0) (.int .i64 0) w) := Lib.hid ⟨0, 0, 0, none, 0, none, 0, rfl, rfl, rfl, by omega, by omega, by omega, Lib.hid ⟨rfl, rfl, Two.nil, Below.refl _ _⟩⟩
  clear hi0 hz0 hz1 hz2 hS hK hln
  go_enter Try.func39, Try.ntmps39
  go_wp2_with fail
  go_loopw [7, 8, 10, 16] (fun vo vs _ q wr => Dropping most p l n w vo vs q wr) (fun _ _ _ q _ => n - (intOf q).toNat)
  case atStart => exact HI0.out
  case round =>
    clear HI0
    obtain ⟨j, no, ns, Ao, co, As, cs, rfl, rfl, rfl, hj, hno, hns, hst⟩ := hrel
    by_cases hlt : j < n
    · obtain ⟨x, hx⟩ : ∃ x, l[j]? = some x := ⟨l[j]'(by have := HLN.out; omega), by simp⟩
      have hxm : x ∈ l := List.mem_of_getElem? hx
      obtain ⟨g, rfl, hgl, hcl, _⟩ := (HS.out.below hst.out.2.2.2).at hx
      have htk : l.take (j + 1) = l.take j ++ [x] := by
        obtain ⟨hjl, hje⟩ := List.getElem?_eq_some_iff.1 hx
        rw [List.take_succ_eq_append_getElem hjl, hje]
      obtain ⟨⟨⟨f1, f2⟩, ⟨k1, v1⟩, rr⟩, ⟨a1, c1⟩, ⟨a2, c2⟩⟩ := x
      obtain ⟨m1, hm1⟩ : ∃ r, v1.length = r := ⟨_, rfl⟩
      obtain ⟨r1, hr1⟩ : ∃ r, rr.length = r := ⟨_, rfl⟩
      have q0 : wr.cell? ⟨g, j * 5, none⟩ = some (.int .i64 f1) := hcl 0 _ rfl
      have q1 : wr.cell? ⟨g, j * 5 + 1, none⟩ = some (.int .i64 f2) := hcl 1 _ rfl
      have q2 : wr.cell? ⟨g, j * 5 + 2, none⟩ = some (.string k1) := hcl 2 _ rfl
      have q3 : wr.cell? ⟨g, j * 5 + 3, none⟩ = some (.slice a1 m1 c1) := by rw [← hm1]; exact hcl 3 _ rfl
      have q4 : wr.cell? ⟨g, j * 5 + 4, none⟩ = some (.slice a2 r1 c2) := by rw [← hr1]; exact hcl 4 _ rfl
      have d1 : (0 : Int) ≤ (j : Int) := by omega
      have d2 : (j : Int) < (n : Int) := by omega
      obtain ⟨W1, hW1⟩ : ∃ W, wr.alloc (.cells #[.int .i64 f1, .int .i64 f2, .string k1, .slice a1 m1 c1, .slice a2 r1 c2] 35) = W := ⟨_, rfl⟩
      have b1 : Below wr.heap.size wr W1 := by rw [← hW1]; exact (Below.refl _ wr).alloc (Nat.le_refl _) _
      have B1 : Bn wr.heap.size 35 [.int .i64 f1, .int .i64 f2, .string k1, .slice a1 m1 c1, .slice a2 r1 c2] W1 := by rw [← hW1]; exact heap_alloc_new wr _
      have bw1 : Below w.heap.size w W1 := hst.out.2.2.2.trans (b1.mono hst.out.2.2.2.size)
      have hKx := HK.out W1 bw1 _ hxm m1 r1 hm1 hr1
      simp only at hKx
      obtain ⟨qp, hqp⟩ : ∃ q, p (((f1, f2), (k1, v1), rr), (a1, c1), (a2, c2)) = q := ⟨_, rfl⟩
      rw [hqp] at hKx
      have HKX := Lib.hid hKx
      have hD := dropF_snoc most p (l.take j) (((f1, f2), (k1, v1), rr), (a1, c1), (a2, c2))
      rw [← htk, hst.out.1, hqp] at hD
      have HD := Lib.hid hD
      have HW1 := Lib.hid hW1
      have HX := Lib.hid (And.intro hm1 (And.intro hr1 hxm))
      have HB1 := Lib.hid b1
      have HBW := Lib.hid hst.out.2.2.2
      have HBn := Lib.hid B1
      have y0 := (B1.cell 0).trans rfl
      have y1 := (B1.cell 1).trans rfl
      have y2 := (B1.cell 2).trans rfl
      have y3 := (B1.cell 3).trans rfl
      have y4 := (B1.cell 4).trans rfl
      clear hW1 hKx hqp hD hm1 hr1 hxm hx htk hcl bw1 b1 B1
      by_cases hmo : (no : Int) < most
      · have d3 : decide ((no : Int) < most) = true := decide_eq_true hmo
        go_upto_region 5 with fail
        rw [HW1.out]
        go_wp2_with fail
        refine Calls.mono HKX.out ?_
        rintro e w2 ⟨rfl, b2⟩
        have hb2 : Below wr.heap.size wr w2 := HB1.out.trans (b2.mono HB1.out.size)
        have B2 := HBn.out.same (b2.block _ HBn.out.lt)
        have y0 := (B2.cell 0).trans rfl
        have y1 := (B2.cell 1).trans rfl
        have y2 := (B2.cell 2).trans rfl
        have y3 := (B2.cell 3).trans rfl
        have y4 := (B2.cell 4).trans rfl
        have HB2 := Lib.hid hb2
        clear b2 hb2 B2
        cases qp
        · have HDD := Lib.hid (HD.out.trans (if_neg (by simp)))
          have T2 := (hst.out.2.2.1.below HB2.out).swap
          have HT := Lib.hid T2
          have hsW := (HBW.out.trans (HB2.out.mono HBW.out.size)).size
          clear T2
          go_wp2_with (at_builtin; refine wpList_append_f _ rfl (.tmp 33) (.tmp 35) 48 rfl w.heap.size 35 i0 _ 80 Try.underlying48 HI.out.1 HI.out.2.1 HI.out.2.2.1 HI.out.2.2.2 rfl (.slice As ns cs) ns (dropF most p (l.take j)).2 rfl (by have h := HT.out.1; rwa [hst.out.2.1] at h) (((f1, f2), (k1, v1), rr), (a1, c1), (a2, c2)) m1 r1 HX.out.1 HX.out.2.1 1 rfl (by omega) (by omega) hsW ?_; intro v5 w5 o5 g5 at5; obtain ⟨A5, c5, rfl⟩ := own_form o5; have H5 := Lib.hid (And.intro o5 (And.intro g5 at5)); clear o5 g5 at5)
          have T5 := (HT.out.add (by rw [hst.out.2.1]; exact H5.out.1) H5.out.2.1 H5.out.2.2).swap
          have hb5 : Below w.heap.size w w5 := (HBW.out.trans (HB2.out.mono HBW.out.size)).grown H5.out.2.1 hsW fun i hi => (HT.out.1.lt i hi).1
          have HN : Hid ((dropF most p (l.take (j + 1))).1.length = no ∧ (dropF most p (l.take (j + 1))).2.length = ns + 1 ∧ Two 35 w.heap.size w5 (.slice Ao no co) (.slice A5 (ns + 1) c5) (dropF most p (l.take (j + 1))).1 (dropF most p (l.take (j + 1))).2 ∧ Below w.heap.size w w5) := Lib.hid (by
            rw [HDD.out]
            exact ⟨hst.out.1, by rw [List.length_append, hst.out.2.1]; rfl, T5, hb5⟩)
          clear T5 hb5
          go_roundw
          case rel => exact ⟨j + 1, no, ns + 1, Ao, co, A5, c5, rfl, rfl, rfl, by omega, by omega, by omega, HN⟩
          case measure => simp only [intOf]; omega
        · have HDD : Hid (dropF most p (l.take (j + 1)) = ((dropF most p (l.take j)).1 ++ [(((f1, f2), (k1, v1), rr), (a1, c1), (a2, c2))], (dropF most p (l.take j)).2)) := Lib.hid (HD.out.trans (if_pos ⟨hmo, by trivial⟩))
          clear hmo
          have T2 := (hst.out.2.2.1.below HB2.out)
          have HT := Lib.hid T2
          have hsW := (HBW.out.trans (HB2.out.mono HBW.out.size)).size
          clear T2
          go_wp2_with (at_builtin; refine wpList_append_f _ rfl (.tmp 29) (.tmp 31) 48 rfl w.heap.size 35 i0 _ 80 Try.underlying48 HI.out.1 HI.out.2.1 HI.out.2.2.1 HI.out.2.2.2 rfl (.slice Ao no co) no (dropF most p (l.take j)).1 rfl (by have h := HT.out.1; rwa [hst.out.1] at h) (((f1, f2), (k1, v1), rr), (a1, c1), (a2, c2)) m1 r1 HX.out.1 HX.out.2.1 1 rfl (by omega) (by omega) hsW ?_; intro v5 w5 o5 g5 at5; obtain ⟨A5, c5, rfl⟩ := own_form o5; have H5 := Lib.hid (And.intro o5 (And.intro g5 at5)); clear o5 g5 at5)
          have T5 := HT.out.add (by rw [hst.out.1]; exact H5.out.1) H5.out.2.1 H5.out.2.2
          have hb5 : Below w.heap.size w w5 := (HBW.out.trans (HB2.out.mono HBW.out.size)).grown H5.out.2.1 hsW fun i hi => (HT.out.1.lt i hi).1
          have HN : Hid ((dropF most p (l.take (j + 1))).1.length = no + 1 ∧ (dropF most p (l.take (j + 1))).2.length = ns ∧ Two 35 w.heap.size w5 (.slice A5 (no + 1) c5) (.slice As ns cs) (dropF most p (l.take (j + 1))).1 (dropF most p (l.take (j + 1))).2 ∧ Below w.heap.size w w5) := Lib.hid (by
            rw [HDD.out]
            exact ⟨by rw [List.length_append, hst.out.1]; rfl, hst.out.2.1, T5, hb5⟩)
          clear T5 hb5
          go_roundw
          case rel => exact ⟨j + 1, no + 1, ns, A5, c5, As, cs, rfl, rfl, rfl, by omega, by omega, by omega, HN⟩
          case measure => simp only [intOf]; omega
      · have d3 : decide ((no : Int) < most) = false := decide_eq_false hmo
        have HDD := Lib.hid (HD.out.trans (if_neg fun h => hmo h.1))
        clear hmo
        go_upto_region 5 with fail
        rw [HW1.out]
        have T2 := (hst.out.2.2.1.below HB1.out).swap
        have HT := Lib.hid T2
        have hsW := (HBW.out.trans (HB1.out.mono HBW.out.size)).size
        clear T2
        go_wp2_with (at_builtin; refine wpList_append_f _ rfl (.tmp 33) (.tmp 35) 48 rfl w.heap.size 35 i0 _ 80 Try.underlying48 HI.out.1 HI.out.2.1 HI.out.2.2.1 HI.out.2.2.2 rfl (.slice As ns cs) ns (dropF most p (l.take j)).2 rfl (by have h := HT.out.1; rwa [hst.out.2.1] at h) (((f1, f2), (k1, v1), rr), (a1, c1), (a2, c2)) m1 r1 HX.out.1 HX.out.2.1 1 rfl (by omega) (by omega) hsW ?_; intro v5 w5 o5 g5 at5; obtain ⟨A5, c5, rfl⟩ := own_form o5; have H5 := Lib.hid (And.intro o5 (And.intro g5 at5)); clear o5 g5 at5)
        have T5 := (HT.out.add (by rw [hst.out.2.1]; exact H5.out.1) H5.out.2.1 H5.out.2.2).swap
        have hb5 : Below w.heap.size w w5 := (HBW.out.trans (HB1.out.mono HBW.out.size)).grown H5.out.2.1 hsW fun i hi => (HT.out.1.lt i hi).1
        have HN : Hid ((dropF most p (l.take (j + 1))).1.length = no ∧ (dropF most p (l.take (j + 1))).2.length = ns + 1 ∧ Two 35 w.heap.size w5 (.slice Ao no co) (.slice A5 (ns + 1) c5) (dropF most p (l.take (j + 1))).1 (dropF most p (l.take (j + 1))).2 ∧ Below w.heap.size w w5) := Lib.hid (by
          rw [HDD.out]
          exact ⟨hst.out.1, by rw [List.length_append, hst.out.2.1]; rfl, T5, hb5⟩)
        clear T5 hb5
        go_roundw
        case rel => exact ⟨j + 1, no, ns + 1, Ao, co, A5, c5, rfl, rfl, rfl, by omega, by omega, by omega, HN⟩
        case measure => simp only [intOf]; omega
    · obtain rfl : j = n := by omega
      have z0 := ((HS.out.below hst.out.2.2.2).1.1.cell 1).trans rfl
      have zf := (HS.out.below hst.out.2.2.2).1.1.frozen 1
      have htk : l.take j = l := List.take_of_length_le (by have := HLN.out; omega)
      have HTK := Lib.hid htk
      have HFI := Lib.hid hst.out
      clear htk hst
      go_wp2_with fail
      go_ret
      obtain ⟨h1, h2, h3, h4⟩ := HFI.out
      rw [HTK.out] at h1 h2 h3
      subst h1
      subst h2
      have hgs := gset wr nb 1 (.slice As (dropF most p l).2.length cs)
      have hIO := HS.out.relist h4 h3.2.1 rfl (dropF_mem most p l).2
      have hC : Chg F w (wr.setCell ⟨nb, 1, none⟩ (.slice As (dropF most p l).2.length cs)) := (Chg.of_below h4).trans (Chg.of_grown hgs fun g hg => by injection hg with hg; subst hg; exact HS.out.2.2.1) fun i hi => .inl hi
      have hC1 : Chg (fun k => k = nb) w (wr.setCell ⟨nb, 1, none⟩ (.slice As (dropF most p l).2.length cs)) := (Chg.of_below h4).trans (Chg.of_grown hgs fun g hg => by injection hg with hg; exact hg.symm) fun i hi => .inl hi
      refine ⟨Ao, co, rfl, Lib.hid ⟨own_keep h3.1 fun g hg => hgs.block g (h3.1.lt g hg).2 fun q => ?_, ⟨As, cs, _, hIO, hC, fun i hi => hi.imp id fun q => q.1⟩, hC1⟩⟩
      have h5 := (h3.1.lt g hg).1
      have h6 := HS.out.lt nb HS.out.2.2.1
      injection q with q
      omega
end Inbox
end Go.Proofs.Ytiempgabamheiaa
