/-
  Several texts of this family in one: PutNum, PutText, CodeWr, CodeWrSet, CodeVerPlain, InboxPlain, Blk, Stp.
-/
import Derived.Test.YtiempgabamheiaaGBase
import Derived.Test.YtiempgabamheiaaGNum
import Derived.Deep.AppendLies
import Derived.Deep.RegionLaw
import Derived.Test.YtiempgabamheiaaGSpanA
import Derived.Test.YtiempgabamheiaaGLook
/-
  num.PutNum and firthref01.PutNum make the bytes of the number, putL.
-/
namespace Go.Proofs.Ytiempgabamheiaa
namespace Num
open Go.RowKit

theorem made_last {e : TypeId} {k : IntKind} {zs acc : List Int} {m : Int} {w w' : World} {v : Value} (h : zs = acc ++ [m]) (hown : w'.ownsRow w.heap.size e 1 v (acc.length + 1) (nums k acc ++ [.int k m])) (hb : Below w.heap.size w w') :
    MadeNs e k zs w (.returned v) w' := by
  subst h
  obtain ⟨A, c, rfl⟩ := own_form hown
  exact ⟨A, c, by simp, by simpa [nums] using hown, hb⟩

def AtPut (B : Nat) (w : World) (n : Int) (q v : Value) (wr : World) : Prop :=
  ∃ (m : Int) (acc : List Int) (f : Nat), 0 ≤ m ∧ m ≤ 9223372036854775807 ∧ q = .int .i64 m ∧ Laid n acc f m ∧ wr.ownsRow B 5 1 v acc.length (nums .u8 acc) ∧ Below B w wr

end Num
end Go.Proofs.Ytiempgabamheiaa

/-
  num.PutText and firthref01.PutText make the bytes of a text.
-/
namespace Go.Proofs.Ytiempgabamheiaa
namespace Num
open Go.RowKit

def textL (s : ByteArray) : List Int := putL (s.size : Int) ++ strNums s

end Num
end Go.Proofs.Ytiempgabamheiaa

/-
  The writer of layer 6: its block and the row of its bytes; numbers, texts, spans, sets.
-/
namespace Go.Proofs.Ytiempgabamheiaa
namespace Code
open Go.RowKit Num Span
attribute [local go_sem ↓] Go.wp_at_zero Go.wp_at_succ

/-- Nothing has turned but the writer's block and its row. -/
def Kp (g : Nat) (v : Value) (w : World) (v' : Value) (w' : World) : Prop :=
  w'.os = w.os ∧ w'.tape = w.tape ∧ w'.output = w.output ∧ w.heap.size ≤ w'.heap.size ∧ ∀ j, j < w.heap.size → j ≠ g → some j ≠ v.ownBlock → w'.heap[j]? = w.heap[j]? ∧ some j ≠ v'.ownBlock
section
variable {base g : Nat} {L : List Int} {v v' v'' : Value} {w w' w'' : World}
theorem Kp.refl (g : Nat) (v : Value) (w : World) : Kp g v w v w := ⟨rfl, rfl, rfl, Nat.le_refl _, fun _ _ _ h => ⟨rfl, h⟩⟩
theorem Kp.trans (h : Kp g v w v' w') (k : Kp g v' w' v'' w'') : Kp g v w v'' w'' :=
  ⟨k.1.trans h.1, k.2.1.trans h.2.1, k.2.2.1.trans h.2.2.1, Nat.le_trans h.2.2.2.1 k.2.2.2.1, fun j hj hg hv => by
    obtain ⟨h1, h2⟩ := h.2.2.2.2 j hj hg hv
    obtain ⟨h3, h4⟩ := k.2.2.2.2 j (Nat.lt_of_lt_of_le hj h.2.2.2.1) hg h2
    exact ⟨h3.trans h1, h4⟩⟩
theorem Kp.of_below (hb : Below w.heap.size w w') : Kp g v w v w' := ⟨hb.os, hb.tape, hb.output, hb.size, fun j hj _ hv => ⟨hb.block j hj, hv⟩⟩
theorem Kp.alloc (g : Nat) (v : Value) (w : World) (o : Obj) : Kp g v w v (w.alloc o) := Kp.of_below ((Below.refl _ w).alloc (Nat.le_refl _) o)
/-- What stands in another block is kept. -/
theorem Kp.block (h : Kp g v w v' w') {j : Nat} {o : Obj} (ho : w.heap[j]? = some o) (hg : j ≠ g) (hv : some j ≠ v.ownBlock) : w'.heap[j]? = some o ∧ some j ≠ v'.ownBlock := by
  obtain ⟨h1, h2⟩ := h.2.2.2.2 j (Array.getElem?_eq_some_iff.1 ho).1 hg hv
  exact ⟨h1.trans ho, h2⟩
end

/-- The cells of numbers, one by one. -/
theorem ns_news {k : IntKind} {w : World} {B b off : Nat} {zs : List Int} (h : Ns k w B (some ⟨b, off, none⟩) zs) : ∀ j u, (nums k zs)[j]? = some u → w.cell? ((⟨b, off, none⟩ : Addr).add j) = some u := by
  intro j u hu
  have hj : j < zs.length := by
    rcases Nat.lt_or_ge j zs.length with h | h
    · exact h
    · rw [List.getElem?_eq_none (by rw [nums_length]; exact h)] at hu; cases hu
  obtain ⟨b', off', he, _, hc⟩ := h (by omega)
  injection he with he
  injection he with e1 e2
  subst e1 e2
  have hadd : (⟨b, off, none⟩ : Addr).add j = ⟨b, off + j, none⟩ := by unfold Addr.add; split <;> simp_all
  rw [hadd, hc j hj, ← hu]
  simp only [nums, List.getElem?_map, List.getD_eq_getElem?_getD, List.getElem?_eq_getElem hj, Option.map_some, Option.getD_some]
theorem nums_cell (k : IntKind) (zs : List Int) : ∀ u ∈ nums k zs, u.oneCell' = true := by
  intro u hu
  obtain ⟨y, _, rfl⟩ := List.mem_map.1 hu
  rfl

/-- A cell of the writer's block, that may be written. -/
def Bxd (w : World) (g : Nat) (v : Value) : Prop := w.cell? ⟨g, 0, none⟩ = some v ∧ w.frozen? ⟨g, 0, none⟩ = false
theorem frozen_block {w w' : World} {g : Nat} (h : w'.heap[g]? = w.heap[g]?) (hf : w.frozen? ⟨g, 0, none⟩ = false) : w'.frozen? ⟨g, 0, none⟩ = false := by
  unfold World.frozen? at hf ⊢
  simp only at hf ⊢
  rw [h]
  exact hf
theorem box_below {w w' : World} {g : Nat} {v : Value} (h : Bxd w g v) (hb : Below w.heap.size w w') : Bxd w' g v := by
  have hl := World.block_lt_of_cell? w _ h.1
  exact ⟨cell_below hb hl h.1, frozen_block (hb.block g hl) h.2⟩
theorem box_below2 {w w' w'' : World} {g : Nat} {v : Value} {row : Option Nat} (h : Bxd w g v) (hb : Below w.heap.size w w') (hg : w'.grownBy w'' row) (hne : some g ≠ row) : Bxd w'' g v := by
  have h1 := box_below h hb
  have hl := World.block_lt_of_cell? w' _ h1.1
  exact ⟨hg.cell h1.1 hne, frozen_block (hg.block g hl hne) h1.2⟩

theorem made_ret {e : TypeId} {k : IntKind} {zs : List Int} {w : World} (r : Ending) (w' : World) (h : MadeNs e k zs w r w') : ∃ v, r = .returned v := by
  obtain ⟨_, _, h, _⟩ := h
  exact ⟨_, h⟩
section
variable {P : Program} {w : World}
/-- A call of a function that is named, at a step of a region that draws: by its contract. -/
theorem step_call {ops : Array Oper} {o : Oper} {a : Act} {K : Act → World → Prop} {Q : Exit → Act → World → Prop} {E : Prop} (hgd : o.guard = none) (f : FuncId) (args : Array Operand) (ats : Array TypeId)
    (ho : o.op = .call { callee := .value (.func f), args := args, argTypes := ats }) (hcf : (callFunc f (args.map a.eval)).run P w = .ok (.enter f (args.map a.eval)) w) (vals : Array Value) (hv : args.map a.eval = vals) {R : Ending → World → Prop} (hc : Calls P f vals w R)
    (hR : ∀ e w', R e w' → ∃ v, e = .returned v) (hK : ∀ v w', R (.returned v) w' → K (a.put o.dst v) w') :
    if Region.wanted o (yielded ops a.tmps) = true then Oper.wp P o a w K Q else E := by
  have hw : Region.wanted o (yielded ops a.tmps) = true := by simp [Region.wanted, hgd]
  rw [if_pos hw]
  have hrun : (execOp a.eval o).run P w = .ok (.enter f vals) w := by
    subst hv
    unfold execOp
    simp [ho, go_sem, hcf]
  unfold Oper.wp
  rw [hrun, Oper.upon_enter]
  refine hc.mono fun e w' h => ?_
  obtain ⟨v, rfl⟩ := hR e w' h
  exact hK v w' h
end

end Code
end Go.Proofs.Ytiempgabamheiaa

/-
  The writer of layer 6: spans and sets.
-/
namespace Go.Proofs.Ytiempgabamheiaa
namespace Code
open Go.RowKit Num Span
attribute [local go_sem ↓] Go.wp_at_zero Go.wp_at_succ

theorem box3_new (w : World) (t : TypeId) (x y z : Value) : Box3 w.heap.size t x y z (w.alloc (.cells #[x, y, z] t)) := heap_alloc_new w _
theorem Box3.kp {g B : Nat} {v v' : Value} {w w' : World} {t : TypeId} {x y z : Value} (h : Box3 B t x y z w) (hk : Kp g v w v' w') (hg : B ≠ g) (hv : some B ≠ v.ownBlock) : Box3 B t x y z w' ∧ some B ≠ v'.ownBlock := hk.block h hg hv

theorem spL_len (x : Sp) : 3 ≤ (spL x).length ∧ (spL x).length ≤ 27 := by
  have l1 := putL_len x.1
  have l2 := putL_len x.2.1
  have l3 := putL_len (x.2.2 - x.2.1)
  unfold spL
  simp only [List.length_append]
  omega
theorem flat_le {α : Type} {enc : α → List Int} {m : Nat} : ∀ {l : List α}, (∀ x ∈ l, (enc x).length ≤ m) → (l.flatMap enc).length ≤ l.length * m
  | [], _ => by simp
  | x :: l, h => by
    have h1 := h x (by simp)
    have h2 := flat_le (l := l) (enc := enc) (m := m) (fun y hy => h y (by simp [hy]))
    rw [List.flatMap_cons, List.length_append, List.length_cons, Nat.add_mul]
    omega
theorem flat_take {α : Type} {enc : α → List Int} {l : List α} {k : Nat} {d : α} (h : k < l.length) : (l.take (k + 1)).flatMap enc = (l.take k).flatMap enc ++ enc (l.getD k d) := by
  rw [List.take_succ_eq_append_getElem h, List.flatMap_append]
  simp [List.getD_eq_getElem?_getD, h]

/-- A set's bytes are not too many. -/
theorem setL_len {l : List Sp} (h : l.length ≤ 1024) : (setL l).length ≤ 27657 := by
  have h1 := putL_len (l.length : Int)
  have h2 := flat_le (l := l) (enc := spL) (m := 27) (fun x _ => (spL_len x).2)
  unfold setL seqL
  rw [List.length_append]
  omega
theorem putL_fine (n : Int) (h : 0 ≤ n) : ∀ z ∈ putL n, 0 ≤ z ∧ z ≤ 255 := putL_bytes n h
theorem seqL_fine {α : Type} {enc : α → List Int} {l : List α} (h : ∀ x ∈ l, ∀ z ∈ enc x, 0 ≤ z ∧ z ≤ 255) : ∀ z ∈ seqL enc l, 0 ≤ z ∧ z ≤ 255 := by
  intro z hz
  unfold seqL at hz
  rcases List.mem_append.1 hz with hz | hz
  · exact putL_bytes _ (by omega) z hz
  · obtain ⟨x, hx, hz⟩ := List.mem_flatMap.1 hz
    exact h x hx z hz
theorem spL_fine {x : Sp} (h : okSp x) : ∀ z ∈ spL x, 0 ≤ z ∧ z ≤ 255 := by
  unfold okSp at h
  intro z hz
  unfold spL at hz
  rcases List.mem_append.1 hz with hz | hz
  · rcases List.mem_append.1 hz with hz | hz
    · exact putL_bytes _ (by omega) z hz
    · exact putL_bytes _ (by omega) z hz
  · exact putL_bytes _ (by omega) z hz
theorem setL_fine {l : List Sp} (h : ∀ x ∈ l, okSp x) : ∀ z ∈ setL l, 0 ≤ z ∧ z ≤ 255 := seqL_fine fun x hx => spL_fine (h x hx)

/-- Bytes of the call's own, and no error; or none, and an error. -/
def PutOut (B : Nat) (r : List Int × Int) (w : World) (e : Ending) (w' : World) : Prop :=
  ∃ A c, e = .returned (.tuple #[.slice A r.1.length c, .int .i64 r.2]) ∧ w'.ownsRow B 5 1 (.slice A r.1.length c) r.1.length (nums .u8 r.1) ∧ Below B w w'

def putSetF (l : List Sp) : List Int × Int := if Right l then (setL l, 0) else ([], 1)

end Code
end Go.Proofs.Ytiempgabamheiaa

/-
  Plain words of layer 6: versions, records, addresses, hashes, as they are taken and written.
-/
namespace Go.Proofs.Ytiempgabamheiaa
namespace Code
open Num Span Vers

/-! ### Versions -/
def tailL (v : Vr) : List Int := if v.gone = true then putL 1 else putL 0 ++ txtL (strNums v.val)
def verL (v : Vr) : List Int := putL v.s ++ putL v.n ++ setL v.past ++ tailL v
def tailP (zs : List Int) (p : Nat) : Option ((Bool × ByteArray) × Nat) :=
  match upP 1 zs p with
  | none => none
  | some (k, q) =>
    if k = 1 then some ((true, ⟨#[]⟩), q)
    else match textP 256 zs q with
      | none => none
      | some (x, r) => some ((false, strOfNums x), r)
def verP (zs : List Int) (p : Nat) : Option (Vr × Nat) :=
  match upP 2147483647 zs p with
  | none => none
  | some (s, q) =>
    match numP zs q with
    | none => none
    | some (n, r) =>
      match setP zs r with
      | none => none
      | some (l, u) =>
        match tailP zs u with
        | none => none
        | some ((g, x), t) => some (⟨s, n, l, g, x⟩, t)
theorem tailP_put {zs : List Int} {v : Vr} {p : Nat} (hv : okV v) (hb : zs.length ≤ 9223372036854775807) (h : Std zs p (tailL v)) : tailP zs p = some ((v.gone, v.val), p + (tailL v).length) := by
  obtain ⟨_, _, _, h5, h6⟩ := hv
  unfold tailP
  by_cases hg : v.gone = true
  · have hL : tailL v = putL 1 := if_pos hg
    rw [hL] at h ⊢
    rw [upP_put (by omega) (by omega) (by omega) h]
    simp only [if_true]
    rw [hg, h6 hg]
  · have hL : tailL v = putL 0 ++ txtL (strNums v.val) := if_neg hg
    rw [hL] at h ⊢
    obtain ⟨h1, h2⟩ := std_append.1 h
    rw [upP_put (by omega) (by omega) (by omega) h1]
    simp only
    rw [if_neg (by decide), textP_put (by rw [strNums_length]; omega) hb h2]
    simp only
    rw [strOf_nums, List.length_append, Nat.add_assoc]
    have hg' : v.gone = false := by simpa using hg
    rw [hg']
theorem tailP_ok {zs : List Int} (hby : ∀ z ∈ zs, 0 ≤ z ∧ z ≤ 255) {p q : Nat} {g : Bool} {x : ByteArray} (hp : p ≤ zs.length) (h : tailP zs p = some ((g, x), q)) :
    p < q ∧ q ≤ zs.length ∧ x.size ≤ 256 ∧ ∀ v : Vr, v.gone = g → v.val = x → Std zs p (tailL v) ∧ q = p + (tailL v).length := by
  unfold tailP at h
  split at h
  · cases h
  · rename_i k r h1
    obtain ⟨a1, a2, a3, a4, a5⟩ := upP_ok hby hp h1
    have al := std_le a1
    have ap := putL_len k
    split at h
    · rename_i hk
      subst hk
      simp only [Option.some.injEq, Prod.mk.injEq] at h
      obtain ⟨⟨rfl, rfl⟩, rfl⟩ := h
      refine ⟨by omega, by omega, by simp [ByteArray.size], fun v hg hx => ?_⟩
      have hL : tailL v = putL 1 := if_pos hg
      rw [hL]
      exact ⟨a1, a2⟩
    · rename_i hk
      have hk0 : k = 0 := by omega
      subst hk0
      split at h
      · cases h
      · rename_i y u h2
        obtain ⟨b1, b2, b3, b4⟩ := textP_ok hby (by omega) h2
        have bl := std_le b1
        simp only [Option.some.injEq, Prod.mk.injEq] at h
        obtain ⟨⟨rfl, rfl⟩, rfl⟩ := h
        have hy := strNums_of y b4
        have hsz : (strOfNums y).size = y.length := by rw [← strNums_length, hy]
        refine ⟨by omega, by omega, by rw [hsz]; omega, fun v hg hx => ?_⟩
        have hL : tailL v = putL 0 ++ txtL (strNums v.val) := if_neg (by rw [hg]; decide)
        rw [hL, hx, hy]
        refine ⟨std_append.2 ⟨a1, by rw [← a2]; exact b1⟩, ?_⟩
        rw [List.length_append]
        omega
theorem verP_put {zs : List Int} (hb : zs.length ≤ 9223372036854775807) (v : Vr) (p : Nat) (hv : okV v) (h : Std zs p (verL v)) : verP zs p = some (v, p + (verL v).length) := by
  obtain ⟨h123, h4⟩ := std_append.1 h
  obtain ⟨h12, h3⟩ := std_append.1 h123
  obtain ⟨h1, h2⟩ := std_append.1 h12
  have hd := hv.1
  unfold okD at hd
  have hR := hv.2.1
  have hRl := hR.1
  rw [List.length_append, ← Nat.add_assoc] at h3
  rw [List.length_append, List.length_append, ← Nat.add_assoc, ← Nat.add_assoc] at h4
  unfold verP
  rw [upP_put (by omega) (by omega) (by omega) h1]
  simp only
  rw [numP_put (by omega) (by omega) h2]
  simp only
  rw [setP_put (by omega) hR.2.1 h3]
  simp only
  rw [tailP_put hv hb h4]
  simp only
  unfold verL
  simp only [List.length_append]
  rw [show p + (putL v.s).length + (putL v.n).length + (setL v.past).length + (tailL v).length = p + ((putL v.s).length + (putL v.n).length + (setL v.past).length + (tailL v).length) by omega]
theorem verP_ok {zs : List Int} (hby : ∀ z ∈ zs, 0 ≤ z ∧ z ≤ 255) (v : Vr) (p q : Nat) (hp : p ≤ zs.length) (h : verP zs p = some (v, q)) :
    (p < q ∧ q ≤ zs.length) ∧ (v.past.length ≤ zs.length ∧ v.val.size ≤ 256 ∧ (v.gone = true → v.val = ⟨#[]⟩)) ∧ (okV v → Std zs p (verL v) ∧ q = p + (verL v).length) := by
  unfold verP at h
  split at h
  · cases h
  · rename_i s r h1
    obtain ⟨a1, a2, a3, a4, a5⟩ := upP_ok hby hp h1
    have al := std_le a1
    have ap := putL_len s
    split at h
    · cases h
    · rename_i n u h2
      obtain ⟨b1, b2, b3, b4⟩ := numP_ok hby (by omega) h2
      have bl := std_le b1
      split at h
      · cases h
      · rename_i l t h3
        have c0 := setP_len hby (by omega) h3
        obtain ⟨c1, c2⟩ := setP_ok hby (by omega) h3
        split at h
        · cases h
        · rename_i g x y h4
          obtain ⟨d1, d2, d3, d4⟩ := tailP_ok hby (by omega) h4
          simp only [Option.some.injEq, Prod.mk.injEq] at h
          obtain ⟨rfl, rfl⟩ := h
          refine ⟨⟨by omega, d2⟩, ⟨by simp only; omega, d3, fun hg => ?_⟩, fun hv => ?_⟩
          · simp only at hg ⊢
            subst hg
            unfold tailP at h4
            split at h4
            · cases h4
            · split at h4
              · simp only [Option.some.injEq, Prod.mk.injEq] at h4
                exact h4.1.2.symm
              · split at h4
                · cases h4
                · simp only [Option.some.injEq, Prod.mk.injEq] at h4
                  exact absurd h4.1.1 (by decide)
          · obtain ⟨e1, e2⟩ := c2 hv.2.1.2.1
            obtain ⟨f1, f2⟩ := d4 ⟨s, n, l, g, x⟩ rfl rfl
            unfold verL
            refine ⟨std_append.2 ⟨std_append.2 ⟨std_append.2 ⟨a1, by rw [← a2]; exact b1⟩, ?_⟩, ?_⟩, ?_⟩
            · rw [List.length_append, ← Nat.add_assoc, ← a2, ← b2]
              exact e1
            · rw [List.length_append, List.length_append, ← Nat.add_assoc, ← Nat.add_assoc, ← a2, ← b2, ← e2]
              exact f1
            · simp only [List.length_append]
              omega
theorem verL_pos (v : Vr) : 1 ≤ (verL v).length := by
  have := putL_len v.s
  unfold verL
  simp only [List.length_append]
  omega

/-! ### Records -/
abbrev Rc := ByteArray × List Vr
def okR (r : Rc) : Prop := 1 ≤ r.1.size ∧ r.1.size ≤ 32 ∧ RightV r.2
instance (r : Rc) : Decidable (okR r) := by unfold okR; infer_instance
def recL (r : Rc) : List Int := txtL (strNums r.1) ++ seqL verL r.2
def recP (zs : List Int) (p : Nat) : Option (Rc × Nat) :=
  match textP 32 zs p with
  | none => none
  | some (x, q) =>
    match seqP (verP zs) zs q with
    | none => none
    | some (l, r) => some ((strOfNums x, l), r)
theorem txtL_pos (l : List Int) : 1 ≤ (txtL l).length := by
  have := putL_len (l.length : Int)
  unfold txtL
  rw [List.length_append]
  omega
theorem recP_put {zs : List Int} (hb : zs.length ≤ 9223372036854775807) (r : Rc) (p : Nat) (hr : okR r) (h : Std zs p (recL r)) : recP zs p = some (r, p + (recL r).length) := by
  obtain ⟨h1, h2⟩ := std_append.1 h
  obtain ⟨r1, r2, r3⟩ := hr
  have rl := r3.1
  unfold recP
  rw [textP_put (by rw [strNums_length]; omega) hb h1]
  simp only
  rw [seqP_put (ok := okV) (fun x p => verP_put hb x p) (by omega) (fun x hx => r3.2.1.1 x hx) h2]
  simp only
  rw [strOf_nums]
  unfold recL
  rw [List.length_append, Nat.add_assoc]
theorem vers_len {zs : List Int} (hby : ∀ z ∈ zs, 0 ≤ z ∧ z ≤ 255) {p q : Nat} {l : List Vr} (hp : p ≤ zs.length) (h : seqP (verP zs) zs p = some (l, q)) : p + l.length < q ∧ q ≤ zs.length := seqP_len hby (fun x p q hp h => (verP_ok hby x p q hp h).1) hp h
theorem recP_ok {zs : List Int} (hby : ∀ z ∈ zs, 0 ≤ z ∧ z ≤ 255) (r : Rc) (p q : Nat) (hp : p ≤ zs.length) (h : recP zs p = some (r, q)) :
    (p < q ∧ q ≤ zs.length) ∧ (r.1.size ≤ 32 ∧ r.2.length ≤ zs.length) ∧ (okR r → Std zs p (recL r) ∧ q = p + (recL r).length) := by
  unfold recP at h
  split at h
  · cases h
  · rename_i x u h1
    obtain ⟨a1, a2, a3, a4⟩ := textP_ok hby hp h1
    have al := std_le a1
    have ap := txtL_pos x
    split at h
    · cases h
    · rename_i l t h2
      have b0 := vers_len hby (by omega) h2
      obtain ⟨b1, b2⟩ := seqP_ok (enc := verL) (ok := okV) hby (fun x p q hp h => ⟨(verP_ok hby x p q hp h).1.2, (verP_ok hby x p q hp h).2.2⟩) (by omega) h2
      simp only [Option.some.injEq, Prod.mk.injEq] at h
      obtain ⟨rfl, rfl⟩ := h
      have hy := strNums_of x a4
      have hsz : (strOfNums x).size = x.length := by rw [← strNums_length, hy]
      refine ⟨⟨by omega, b1⟩, ⟨by rw [hsz]; omega, by simp only; omega⟩, fun hr => ?_⟩
      obtain ⟨c1, c2⟩ := b2 hr.2.2.2.1.1
      unfold recL
      simp only [hy]
      refine ⟨std_append.2 ⟨a1, by rw [← a2]; exact c1⟩, ?_⟩
      rw [List.length_append]
      omega
theorem recL_pos (r : Rc) : 1 ≤ (recL r).length := by
  have := txtL_pos (strNums r.1)
  unfold recL
  rw [List.length_append]
  omega

/-! ### Addresses and hashes -/
def addrL (a : Int × Int) : List Int := putL a.1 ++ putL a.2
def addrP (zs : List Int) (p : Nat) : Option ((Int × Int) × Nat) :=
  match upP 2147483647 zs p with
  | none => none
  | some (s, q) =>
    match upP 2147483647 zs q with
    | none => none
    | some (n, r) => some ((s, n), r)
def hshL (h : Int) : List Int := putL (h / 4294967296) ++ putL (h % 4294967296)
def hshP (zs : List Int) (p : Nat) : Option (Int × Nat) :=
  match upP 4294967295 zs p with
  | none => none
  | some (u, q) =>
    match upP 4294967295 zs q with
    | none => none
    | some (l, r) => some (u * 4294967296 + l, r)
theorem addrP_put {zs : List Int} {a : Int × Int} {p : Nat} (h1 : 0 ≤ a.1 ∧ a.1 ≤ 2147483647) (h2 : 0 ≤ a.2 ∧ a.2 ≤ 2147483647) (h : Std zs p (addrL a)) : addrP zs p = some (a, p + (addrL a).length) := by
  obtain ⟨g1, g2⟩ := std_append.1 h
  unfold addrP
  rw [upP_put h1.1 h1.2 (by omega) g1]
  simp only
  rw [upP_put h2.1 h2.2 (by omega) g2]
  simp only
  unfold addrL
  rw [List.length_append, Nat.add_assoc]
theorem addrP_ok {zs : List Int} (hby : ∀ z ∈ zs, 0 ≤ z ∧ z ≤ 255) {a : Int × Int} {p q : Nat} (hp : p ≤ zs.length) (h : addrP zs p = some (a, q)) : Std zs p (addrL a) ∧ q = p + (addrL a).length ∧ p < q ∧ q ≤ zs.length ∧ (0 ≤ a.1 ∧ a.1 ≤ 2147483647) ∧ (0 ≤ a.2 ∧ a.2 ≤ 2147483647) := by
  unfold addrP at h
  split at h
  · cases h
  · rename_i s r h1
    obtain ⟨a1, a2, a3, a4, a5⟩ := upP_ok hby hp h1
    have al := std_le a1
    have ap := putL_len s
    split at h
    · cases h
    · rename_i n t h2
      obtain ⟨b1, b2, b3, b4, b5⟩ := upP_ok hby (by omega) h2
      have bl := std_le b1
      simp only [Option.some.injEq, Prod.mk.injEq] at h
      obtain ⟨rfl, rfl⟩ := h
      unfold addrL
      refine ⟨std_append.2 ⟨a1, by rw [← a2]; exact b1⟩, by simp only [List.length_append]; omega, by omega, by omega, ⟨a3, a4⟩, ⟨b3, b4⟩⟩
theorem hshP_put {zs : List Int} (h : Int) (p : Nat) (hh : 0 ≤ h ∧ h < 18446744073709551616) (hs : Std zs p (hshL h)) : hshP zs p = some (h, p + (hshL h).length) := by
  obtain ⟨g1, g2⟩ := std_append.1 hs
  unfold hshP
  rw [upP_put (by omega) (by omega) (by omega) g1]
  simp only
  rw [upP_put (by omega) (by omega) (by omega) g2]
  simp only
  unfold hshL
  rw [List.length_append, Nat.add_assoc, show h / 4294967296 * 4294967296 + h % 4294967296 = h by omega]
theorem hshP_ok {zs : List Int} (hby : ∀ z ∈ zs, 0 ≤ z ∧ z ≤ 255) (h : Int) (p q : Nat) (hp : p ≤ zs.length) (hP : hshP zs p = some (h, q)) : (p < q ∧ q ≤ zs.length) ∧ (0 ≤ h ∧ h < 18446744073709551616) ∧ Std zs p (hshL h) ∧ q = p + (hshL h).length := by
  unfold hshP at hP
  split at hP
  · cases hP
  · rename_i u r h1
    obtain ⟨a1, a2, a3, a4, a5⟩ := upP_ok hby hp h1
    have al := std_le a1
    have ap := putL_len u
    split at hP
    · cases hP
    · rename_i l t h2
      obtain ⟨b1, b2, b3, b4, b5⟩ := upP_ok hby (by omega) h2
      have bl := std_le b1
      simp only [Option.some.injEq, Prod.mk.injEq] at hP
      obtain ⟨rfl, rfl⟩ := hP
      have e1 : (u * 4294967296 + l) / 4294967296 = u := by omega
      have e2 : (u * 4294967296 + l) % 4294967296 = l := by omega
      unfold hshL
      rw [e1, e2]
      exact ⟨⟨by omega, by omega⟩, by omega, std_append.2 ⟨a1, by rw [← a2]; exact b1⟩, by rw [List.length_append]; omega⟩
end Code
end Go.Proofs.Ytiempgabamheiaa

/-
  Plain words of layer 18: writes of other sites, and what an inbox answers.
-/
namespace Go.Proofs.Ytiempgabamheiaa
namespace Inbox
open Vers Span

/-- A far write: from, number; its record; its route. -/
abbrev Fr := (Int × Int) × Code.Rc × List Int
def f0 : Fr := ((0, 0), (⟨#[]⟩, []), [])
/-- Its version. -/
def vr (x : Fr) : Vr := x.2.1.2.getD 0 v0
def okF (x : Fr) : Prop := Code.okR x.2.1 ∧ x.2.1.2.length = 1
instance (x : Fr) : Decidable (okF x) := by unfold okF; infer_instance
def covF (v : List Int) (x : Fr) : Prop := Vect.CoversV v (vr x).s (vr x).n
instance (v : List Int) (x : Fr) : Decidable (covF v x) := by unfold covF; infer_instance
def mayF (v : List Int) (x : Fr) : Prop := Vect.IsNext v (vr x).s (vr x).n ∧ Vect.HoldsV v (vr x).past
instance (v : List Int) (x : Fr) : Decidable (mayF v x) := by unfold mayF Vect.IsNext; infer_instance
def sdot (x y : Fr) : Prop := (vr x).s = (vr y).s ∧ (vr x).n = (vr y).n
instance (x y : Fr) : Decidable (sdot x y) := by unfold sdot; infer_instance
/-- What Take answers, and what waits then. -/
def takeF (room : Int) (P : List Fr) (v : List Int) (x : Fr) : Int × List Fr :=
  if okF x then (if covF v x then (1, P) else if ∃ y ∈ P, sdot y x then (3, P) else if (room ≤ (P.length : Int)) ∧ ¬ mayF v x then (4, P) else (2, P ++ [x])) else (0, P)
/-- What is taken out and what stays, at most so many being taken. -/
def dropF {α : Type} (most : Int) (p : α → Bool) (l : List α) : List α × List α :=
  l.foldl (fun r x => if (r.1.length : Int) < most ∧ p x = true then (r.1 ++ [x], r.2) else (r.1, r.2 ++ [x])) ([], [])
section
variable {α β : Type}
theorem dropF_snoc (most : Int) (p : α → Bool) (l : List α) (x : α) : dropF most p (l ++ [x]) = if ((dropF most p l).1.length : Int) < most ∧ p x = true then ((dropF most p l).1 ++ [x], (dropF most p l).2) else ((dropF most p l).1, (dropF most p l).2 ++ [x]) := by
  unfold dropF
  rw [List.foldl_append]
  rfl
theorem rev_induct {P : List α → Prop} (h0 : P []) (h1 : ∀ l x, P l → P (l ++ [x])) (l : List α) : P l := by
  have : ∀ r : List α, P r.reverse := fun r => by
    induction r with
    | nil => exact h0
    | cons x r ih => rw [List.reverse_cons]; exact h1 _ x ih
  have h := this l.reverse
  rwa [List.reverse_reverse] at h
theorem dropF_map (most : Int) (p : β → Bool) (f : α → β) (l : List α) : dropF most p (l.map f) = ((dropF most (fun x => p (f x)) l).1.map f, (dropF most (fun x => p (f x)) l).2.map f) := by
  induction l using rev_induct with
  | h0 => rfl
  | h1 l x ih =>
    rw [List.map_append, List.map_singleton, dropF_snoc, dropF_snoc, ih, List.length_map]
    split <;> simp
theorem dropF_len (most : Int) (p : α → Bool) (l : List α) : (dropF most p l).1.length + (dropF most p l).2.length = l.length := by
  induction l using rev_induct with
  | h0 => rfl
  | h1 l x ih =>
    rw [dropF_snoc]
    split <;> simp <;> omega
theorem dropF_mem (most : Int) (p : α → Bool) (l : List α) : (∀ x ∈ (dropF most p l).1, x ∈ l) ∧ ∀ x ∈ (dropF most p l).2, x ∈ l := by
  induction l using rev_induct with
  | h0 => exact ⟨fun x h => h, fun x h => h⟩
  | h1 l x ih =>
    rw [dropF_snoc]
    split
    · exact ⟨fun y hy => by
        rcases List.mem_append.1 hy with h | h
        · exact List.mem_append_left _ (ih.1 y h)
        · exact List.mem_append_right _ h, fun y hy => List.mem_append_left _ (ih.2 y hy)⟩
    · exact ⟨fun y hy => List.mem_append_left _ (ih.1 y hy), fun y hy => by
        rcases List.mem_append.1 hy with h | h
        · exact List.mem_append_left _ (ih.2 y h)
        · exact List.mem_append_right _ h⟩
theorem dropF_all (p : α → Bool) (m : Nat) (l : List α) : l.length ≤ m → dropF (m : Int) p l = (l.filter p, l.filter fun x => !p x) := by
  induction l using rev_induct with
  | h0 => exact fun _ => rfl
  | h1 l x ih =>
    intro h
    rw [List.length_append, List.length_singleton] at h
    have hl := List.length_filter_le p l
    rw [dropF_snoc, ih (by omega), List.filter_append, List.filter_append]
    have h1 : (((l.filter p).length : Nat) : Int) < (m : Int) := by omega
    cases hp : p x
    · simp [hp]
    · simp [hp, h1]
theorem clean_is (p : α → Bool) (P : List α) : dropF (P.length : Int) p P = (P.filter p, P.filter fun x => !p x) := dropF_all p _ P (Nat.le_refl _)
theorem ready_none (p : α → Bool) (l : List α) : (∀ x ∈ l, p x = false) → dropF 1 p l = ([], l) := by
  induction l using rev_induct with
  | h0 => exact fun _ => rfl
  | h1 l x ih =>
    intro h
    rw [dropF_snoc, ih fun y hy => h y (by simp [hy])]
    simp [h x (by simp)]
theorem ready_past (p : α → Bool) (l : List α) (x : α) (hl : ∀ y ∈ l, p y = false) (hx : p x = true) (r : List α) : dropF 1 p (l ++ [x] ++ r) = ([x], l ++ r) := by
  induction r using rev_induct with
  | h0 =>
    rw [List.append_nil, dropF_snoc, ready_none p l hl]
    simp [hx]
  | h1 r y ih =>
    rw [← List.append_assoc, dropF_snoc, ih]
    simp
/-- The first one of which it is true. -/
theorem ready_is (p : α → Bool) (P : List α) : (dropF 1 p P = ([], P) ∧ ∀ x ∈ P, p x = false) ∨ ∃ i x, P[i]? = some x ∧ p x = true ∧ (∀ y ∈ P.take i, p y = false) ∧ dropF 1 p P = ([x], P.eraseIdx i) := by
  by_cases h : ∃ x ∈ P, p x = true
  · obtain ⟨i, hi⟩ : ∃ i, P.findIdx p = i := ⟨_, rfl⟩
    have hlt : i < P.length := by rw [← hi]; exact List.findIdx_lt_length_of_exists h
    have hpx : p (P[i]) = true := by subst hi; exact List.findIdx_getElem
    have hbef : ∀ y ∈ P.take i, p y = false := fun y hy => by
      obtain ⟨j, hj, rfl⟩ := List.mem_iff_getElem.1 hy
      rw [List.length_take] at hj
      rw [List.getElem_take]
      have := List.not_of_lt_findIdx (p := p) (xs := P) (i := j) (by omega)
      simpa using this
    refine .inr ⟨i, P[i], by simp [hlt], hpx, hbef, ?_⟩
    have h1 : P = P.take i ++ [P[i]] ++ P.drop (i + 1) := by
      rw [List.append_assoc, List.singleton_append, ← List.drop_eq_getElem_cons hlt, List.take_append_drop]
    have h2 := ready_past p (P.take i) P[i] hbef hpx (P.drop (i + 1))
    rw [← h1] at h2
    rw [h2, List.eraseIdx_eq_take_drop_succ]
  · have h0 : ∀ x ∈ P, p x = false := fun x hx => by
      cases hp : p x
      · rfl
      · exact (h ⟨x, hx, hp⟩).elim
    exact .inl ⟨ready_none p P h0, h0⟩
end
end Inbox
end Go.Proofs.Ytiempgabamheiaa

/-
  Blocks of cells; what a call may turn: a set of blocks, and new ones.
-/
namespace Go.Proofs.Ytiempgabamheiaa
namespace Blk
open Go.RowKit

section
variable {w w' w'' : World}
theorem gset (w : World) (g k : Nat) (v : Value) : w.grownBy (w.setCell ⟨g, k, none⟩ v) (some g) :=
  ⟨rfl, rfl, rfl, by simp [World.setCell], fun j hj hne => by
    have : j ≠ g := fun e => hne (by rw [e])
    simp [World.setCell, Array.getElem?_modify, this.symm]⟩
theorem gdrew {row : Option Nat} (h : w.grownBy w' row) : w.grownBy w'.drew row := ⟨h.os, h.tape, h.output, h.size, h.block⟩
theorem gdrewN {row : Option Nat} (h : w.grownBy w' row) (k : Nat) : w.grownBy (w'.drewN k) row := ⟨h.os, h.tape, h.output, h.size, h.block⟩
/-- Block B holds the cells cs. -/
def Bn (B : Nat) (t : TypeId) (cs : List Value) (w : World) : Prop := w.heap[B]? = some (.cells cs.toArray t (0, 0))
variable {B : Nat} {t : TypeId} {cs : List Value}
theorem Bn.lt (h : Bn B t cs w) : B < w.heap.size := (Array.getElem?_eq_some_iff.1 h).1
theorem Bn.cell (h : Bn B t cs w) (k : Nat) : w.cell? ⟨B, k, none⟩ = cs[k]? := by
  have h' : w.heap[B]? = _ := h
  simp [World.cell?, h']
theorem Bn.frozen (h : Bn B t cs w) (j : Nat) : w.frozen? ⟨B, j, none⟩ = false := by simp [World.frozen?, show w.heap[B]? = _ from h]
theorem Bn.same (h : Bn B t cs w) (hk : w'.heap[B]? = w.heap[B]?) : Bn B t cs w' := hk.trans h
theorem Bn.kept {row : Option Nat} (h : Bn B t cs w) (hg : w.grownBy w' row) (hne : some B ≠ row) : Bn B t cs w' := (hg.block B h.lt hne).trans h
theorem Bn.set (h : Bn B t cs w) (k : Nat) (v : Value) : Bn B t (cs.set k v) (w.setCell ⟨B, k, none⟩ v) := by
  have h' : w.heap[B]? = some (.cells cs.toArray t (0, 0)) := h
  show (w.setCell ⟨B, k, none⟩ v).heap[B]? = _
  simp [World.setCell, Array.getElem?_modify, h']
theorem Bn.type {t' : TypeId} {cs' : List Value} (h : Bn B t cs w) (h' : Bn B t' cs' w) : t = t' := by
  have e : some (Obj.cells cs.toArray t (0, 0)) = some (.cells cs'.toArray t' (0, 0)) := (show w.heap[B]? = _ from h).symm.trans (show w.heap[B]? = _ from h')
  injection e with e
  injection e with e1 e2
end
/-- The block of a row of the call's own: its type. -/
theorem own_block {w : World} {base : Nat} {t : TypeId} {s : Nat} {v : Value} {n : Nat} {xs : List Value} (h : w.ownsRow base t s v n xs) {g : Nat} (hg : v.ownBlock = some g) : ∃ cur, w.heap[g]? = some (.cells cur t (0, 0)) := by
  rcases h.2 with ⟨hv, _⟩ | ⟨g', cap, cur, hv, _, hc, _⟩
  · rw [hv] at hg; cases hg
  · rw [hv] at hg
    injection hg with hg
    subst hg
    exact ⟨cur, hc⟩
theorem own_ne {w : World} {base : Nat} {t t' : TypeId} {s : Nat} {v : Value} {n : Nat} {xs cs : List Value} {B : Nat} (h : w.ownsRow base t s v n xs) (hB : Bn B t' cs w) (ht : t ≠ t') : v.ownBlock ≠ some B := fun e => by
  obtain ⟨cur, hc⟩ := own_block h e
  rw [show w.heap[B]? = _ from hB] at hc
  injection hc with hc
  injection hc with h1 h2
  exact ht h2.symm
theorem own_ne2 {w : World} {base base' : Nat} {t t' : TypeId} {s s' : Nat} {v v' : Value} {n n' : Nat} {xs xs' : List Value} (h : w.ownsRow base t s v n xs) (h' : w.ownsRow base' t' s' v' n' xs') (ht : t ≠ t') {g : Nat} (hg : v.ownBlock = some g) : v'.ownBlock ≠ some g := fun e => by
  obtain ⟨cur, hc⟩ := own_block h hg
  obtain ⟨cur', hc'⟩ := own_block h' e
  rw [hc] at hc'
  injection hc' with hc'
  injection hc' with h1 h2
  exact ht h2
theorem own_keep {w w' : World} {base : Nat} {e : TypeId} {size : Nat} {v : Value} {n : Nat} {xs : List Value} (h : w.ownsRow base e size v n xs) (hk : ∀ g, v.ownBlock = some g → w'.heap[g]? = w.heap[g]?) : w'.ownsRow base e size v n xs := by
  refine ⟨h.1, ?_⟩
  rcases h.2 with ⟨hv, h0⟩ | ⟨g, cap, cur, hv, hb, hc, h1⟩
  · exact .inl ⟨hv, h0⟩
  · exact .inr ⟨g, cap, cur, hv, hb, (hk g (by rw [hv]; rfl)).trans hc, h1⟩

/-- All that was turned is among the blocks F, or new. -/
structure Chg (F : Nat → Prop) (w w' : World) : Prop where
  os : w'.os = w.os
  tape : w'.tape = w.tape
  output : w'.output = w.output
  size : w.heap.size ≤ w'.heap.size
  block : ∀ k, k < w.heap.size → ¬ F k → w'.heap[k]? = w.heap[k]?
section
variable {F F' : Nat → Prop} {w w' w'' : World}
theorem Chg.refl (F : Nat → Prop) (w : World) : Chg F w w := ⟨rfl, rfl, rfl, Nat.le_refl _, fun _ _ _ => rfl⟩
theorem Chg.trans (h : Chg F w w') (h' : Chg F' w' w'') (hF : ∀ k, F' k → F k ∨ w.heap.size ≤ k) : Chg F w w'' :=
  ⟨h'.os.trans h.os, h'.tape.trans h.tape, h'.output.trans h.output, Nat.le_trans h.size h'.size, fun k hk hn => (h'.block k (Nat.lt_of_lt_of_le hk h.size) fun e => (hF k e).elim hn (fun e => by omega)).trans (h.block k hk hn)⟩
theorem Chg.mono (h : Chg F w w') (hF : ∀ k, F k → F' k) : Chg F' w w' := ⟨h.os, h.tape, h.output, h.size, fun k hk hn => h.block k hk fun e => hn (hF k e)⟩
theorem Chg.of_below (h : Below w.heap.size w w') : Chg F w w' := ⟨h.os, h.tape, h.output, h.size, fun k hk _ => h.block k hk⟩
theorem Chg.of_grown {row : Option Nat} (h : w.grownBy w' row) (hr : ∀ g, row = some g → F g) : Chg F w w' := ⟨h.os, h.tape, h.output, h.size, fun k hk hn => h.block k hk fun e => hn (hr k e.symm)⟩
theorem Chg.below {base : Nat} (h : Chg F w w') (hF : ∀ k, F k → base ≤ k) (hb : base ≤ w.heap.size) : Below base w w' := ⟨h.os, h.tape, h.output, h.size, fun k hk => h.block k (by omega) fun e => by have := hF k e; omega⟩
end
/-- Five cells written. -/
def five (V : World) (m : Nat) (u0 u1 u2 u3 u4 : Value) : World := ((((V.setCell ⟨m, 0, none⟩ u0).setCell ⟨m, 1, none⟩ u1).setCell ⟨m, 2, none⟩ u2).setCell ⟨m, 3, none⟩ u3).setCell ⟨m, 4, none⟩ u4
theorem five_bn {V : World} {m : Nat} {t : TypeId} {z0 z1 z2 z3 z4 : Value} (h : Bn m t [z0, z1, z2, z3, z4] V) (u0 u1 u2 u3 u4 : Value) : Bn m t [u0, u1, u2, u3, u4] (five V m u0 u1 u2 u3 u4) := ((((h.set 0 u0).set 1 u1).set 2 u2).set 3 u3).set 4 u4
theorem grown_trans_one {w w' w'' : World} {row : Option Nat} (h : w.grownBy w' row) (h' : w'.grownBy w'' row) : w.grownBy w'' row := ⟨h'.os.trans h.os, h'.tape.trans h.tape, h'.output.trans h.output, Nat.le_trans h.size h'.size, fun k hk hne => (h'.block k (Nat.lt_of_lt_of_le hk h.size) hne).trans (h.block k hk hne)⟩
theorem five_grown (V : World) (m : Nat) (u0 u1 u2 u3 u4 : Value) : V.grownBy (five V m u0 u1 u2 u3 u4) (some m) := grown_trans_one (grown_trans_one (grown_trans_one (grown_trans_one (gset V m 0 u0) (gset _ m 1 u1)) (gset _ m 2 u2)) (gset _ m 3 u3)) (gset _ m 4 u4)
theorem five_size (V : World) (m : Nat) (u0 u1 u2 u3 u4 : Value) : (five V m u0 u1 u2 u3 u4).heap.size = V.heap.size := by simp [five, World.setCell]
theorem five_below {B : Nat} (V : World) (m : Nat) (hm : B ≤ m) (hV : B ≤ V.heap.size) (u0 u1 u2 u3 u4 : Value) : Below B V (five V m u0 u1 u2 u3 u4) := (Below.refl B V).grown (five_grown V m u0 u1 u2 u3 u4) hV fun j hj => by injection hj with hj; omega
theorem results_cell1 {fn : Func} {p : Tmp} {ty : TypeId} (h : fn.results = #[.cell p ty]) (tmps : Array Value) (P : Program) (w : World) :
    (results fn tmps).run P w = ((asAddr (tmps.getD p undef)).run P w).andThen fun a w₁ => (loadVar ty a).run P w₁ := by
  simp only [results, h]
  simp [Sem.run_bind, Result.andThen]
section
variable {P : Program} {w : World}
/-- A call as one step of a region that draws. -/
theorem step_call {ops : Array Oper} {o : Oper} {a : Act} {K : Act → World → Prop} {Q : Exit → Act → World → Prop} {E : Prop} (hgd : o.guard = none) (f : FuncId) (args : Array Operand) (ats : Array TypeId)
    (ho : o.op = .call { callee := .value (.func f), args := args, argTypes := ats }) (hcf : (callFunc f (args.map a.eval)).run P w = .ok (.enter f (args.map a.eval)) w) (vals : Array Value) (hv : args.map a.eval = vals) {R : Ending → World → Prop} (hc : Calls P f vals w R)
    (hR : ∀ e w', R e w' → ∃ v, e = .returned v) (hK : ∀ v w', R (.returned v) w' → K (a.put o.dst v) w') :
    if Region.wanted o (yielded ops a.tmps) = true then Oper.wp P o a w K Q else E := by
  have hw : Region.wanted o (yielded ops a.tmps) = true := by simp [Region.wanted, hgd]
  rw [if_pos hw]
  have hrun : (execOp a.eval o).run P w = .ok (.enter f vals) w := by
    subst hv
    unfold execOp
    simp [ho, go_sem, hcf]
  unfold Oper.wp
  rw [hrun, Oper.upon_enter]
  refine hc.mono fun e w' h => ?_
  obtain ⟨v, rfl⟩ := hR e w' h
  exact hK v w' h
end
end Blk
end Go.Proofs.Ytiempgabamheiaa

/-
  A step: what it turns is among the blocks F, or new; what it owns then is of F, or new.
-/
namespace Go.Proofs.Ytiempgabamheiaa
namespace Blk
open Go.RowKit
def Stp (F : Nat → Prop) (w : World) (F' : Nat → Prop) (w' : World) : Prop := Chg F w w' ∧ ∀ k, F' k → F k ∨ w.heap.size ≤ k
section
variable {F F' F'' : Nat → Prop} {w w' w'' : World}
theorem Stp.refl (F : Nat → Prop) (w : World) : Stp F w F w := ⟨Chg.refl _ _, fun _ h => .inl h⟩
theorem Stp.of_below (h : Below w.heap.size w w') : Stp F w F w' := ⟨Chg.of_below h, fun _ h => .inl h⟩
theorem Stp.trans (h : Stp F w F' w') (h' : Stp F' w' F'' w'') : Stp F w F'' w'' := ⟨h.1.trans h'.1 h.2, fun k hk => (h'.2 k hk).elim (h.2 k) fun e => .inr (Nat.le_trans h.1.size e)⟩
theorem Stp.old {W : World} (h : Stp F w F' w') (hb : Below W.heap.size W w) (hF : ∀ k, F k → W.heap.size ≤ k) : Below W.heap.size W w' ∧ ∀ k, F' k → W.heap.size ≤ k :=
  ⟨hb.trans (h.1.below hF hb.size), fun k hk => (h.2 k hk).elim (hF k) fun e => Nat.le_trans hb.size e⟩
end
end Blk
end Go.Proofs.Ytiempgabamheiaa
