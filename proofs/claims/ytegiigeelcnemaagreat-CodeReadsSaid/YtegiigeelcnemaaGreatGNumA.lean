/-
  Several texts of this family in one: Base, NumPlain, Frame, Facts, Bulk.
-/
import Derived.WalkKit
import Derived.Lib.Hide
import Derived.Deep.Draws
import Derived.Deep.QuietTactic
import Derived.BigQuiet
import Derived.Maps.AppendAt
import Derived.Laws.BytesArg
import Derived.Lib.AppendStr
import Derived.ProofKit
import Derived.SizedLaws
import Derived.OpenShut
import Derived.JoinedCond
import Derived.Deep.CondSized
import Derived.Test.YtegiigeelcnemaaGreatRows
/-
  Plain words on memory that all texts share: a slice whose cells read as a list of numbers, nil and empty ones let in.
-/
namespace Go.Proofs.YtegiigeelcnemaaGreat
open Go.RowKit

/-- From the address A on stand the numbers zs, of kind k, in a block below B. -/
def Ns (k : IntKind) (w : World) (B : Nat) (A : Option Addr) (zs : List Int) : Prop :=
  0 < zs.length → ∃ b off, A = some ⟨b, off, none⟩ ∧ b < B ∧ ∀ j, j < zs.length → w.cell? ⟨b, off + j, none⟩ = some (.int k (zs.getD j 0))

section
variable {k : IntKind} {w w' : World} {B B' : Nat} {A : Option Addr} {zs : List Int}
theorem Ns.nil (A : Option Addr) : Ns k w B A [] := fun h => absurd h (by simp)
theorem Ns.keep (h : Ns k w B A zs) (hk : ∀ p : Addr, p.block < B → w'.cell? p = w.cell? p) : Ns k w' B A zs := fun hp => by
  obtain ⟨b, off, e, hb, hc⟩ := h hp
  exact ⟨b, off, e, hb, fun j hj => (hk _ hb).trans (hc j hj)⟩
theorem Ns.more (h : Ns k w B A zs) (hB : B ≤ B') : Ns k w B' A zs := fun hp => by
  obtain ⟨b, off, e, hb, hc⟩ := h hp
  exact ⟨b, off, e, by omega, hc⟩
theorem Ns.below (h : Ns k w B A zs) (hb : Below B w w') : Ns k w' B A zs := h.keep fun _ hp => hb.cell hp
theorem Ns.drew (h : Ns k w B A zs) : Ns k w.drew B A zs := h
theorem Ns.drewN (h : Ns k w B A zs) (n : Nat) : Ns k (w.drewN n) B A zs := h
theorem Ns.alloc (h : Ns k w B A zs) (hB : B ≤ w.heap.size) (o : Obj) : Ns k (w.alloc o) B A zs := h.keep fun p hp => World.cell?_alloc_lt w o p (by omega)
theorem Ns.grown (h : Ns k w B A zs) {row : Option Nat} (hg : w.grownBy w' row) (hB : B ≤ w.heap.size) (hr : ∀ g, row = some g → B ≤ g) : Ns k w' B A zs :=
  h.keep fun p hp => World.cell?_of_block (hg.block p.block (by omega) (fun e => by have := hr _ e.symm; omega))
end

/-! ### What a call has made: a row of numbers of its own -/
def nums (k : IntKind) (zs : List Int) : List Value := zs.map (Value.int k)
theorem nums_length (k : IntKind) (zs : List Int) : (nums k zs).length = zs.length := by simp [nums]

/-- The call has made the slice of the numbers zs (of the element type e, kind k), and has turned nothing that was there. -/
def MadeNs (e : TypeId) (k : IntKind) (zs : List Int) (w : World) (r : Ending) (w' : World) : Prop :=
  ∃ A c, r = .returned (.slice A zs.length c) ∧ w'.ownsRow w.heap.size e 1 (.slice A zs.length c) zs.length (nums k zs) ∧ Below w.heap.size w w'

theorem own_form {w : World} {base : Nat} {e : TypeId} {size : Nat} {v : Value} {n : Nat} {xs : List Value} (h : w.ownsRow base e size v n xs) : ∃ A c, v = .slice A n c := by
  rcases h.2 with ⟨rfl, rfl⟩ | ⟨g, cap, cur, rfl, _⟩
  · exact ⟨_, _, rfl⟩
  · exact ⟨_, _, rfl⟩

theorem own_ns {w : World} {base : Nat} {e : TypeId} {k : IntKind} {A : Option Addr} {c n : Nat} {zs : List Int} (h : w.ownsRow base e 1 (.slice A n c) zs.length (nums k zs)) : Ns k w w.heap.size A zs := by
  intro hp
  rcases h.2 with ⟨_, h0⟩ | ⟨g, cap, cur, hv, hbg, hg, hn, hcm, hcs, htake⟩
  · omega
  · injection hv with h1 h2 h3
    subst h1
    refine ⟨g, 0, rfl, (Array.getElem?_eq_some_iff.1 hg).1, fun j hj => ?_⟩
    have hc := h.cells (g := g) rfl j (.int k (zs.getD j 0)) (by
      simp only [nums, List.getElem?_map, List.getD_eq_getElem?_getD, List.getElem?_eq_getElem hj, Option.map_some, Option.getD_some])
    have hadd : (⟨g, 0, none⟩ : Addr).add j = ⟨g, 0 + j, none⟩ := by unfold Addr.add; split <;> simp_all
    rw [hadd] at hc
    exact hc

theorem own_below {w w' : World} {base B : Nat} {e : TypeId} {size : Nat} {v : Value} {n : Nat} {xs : List Value} (h : w.ownsRow base e size v n xs) (hb : Below B w w') (hB : w.heap.size ≤ B) : w'.ownsRow base e size v n xs := by
  refine ⟨h.1, ?_⟩
  rcases h.2 with hn | ⟨g, cap, cur, rfl, hbg, hg, rest⟩
  · exact .inl hn
  · exact .inr ⟨g, cap, cur, rfl, hbg, by rw [hb.block g (by have := (Array.getElem?_eq_some_iff.1 hg).1; omega)]; exact hg, rest⟩

section
variable {P : Program} (w : World)
/-- append of one cell that was just laid in a block of its own, onto a row of the call's own. -/
theorem wpList_append_one {ops : Array Oper} {rest : List Oper} {o : Oper} {a : Act} {Q : Exit → Act → World → Prop} (hgd : o.guard = none) (s x : Operand) (t : TypeId)
    (ho : o.op = .call { callee := .builtin .append, args := #[s, x], argTypes := #[t, t] })
    (base : Nat) (e : TypeId) (i : TypeInfo) (z : Value) (bytes : Nat) (ht : P.underlying t = some (.slice e)) (hi : P.info? e = some i) (hz : i.zero = some z)
    (hsize : i.size = 1) (hby : i.bytes = bytes) (hzs : z.cells.size = 1)
    (v : Value) (n : Nat) (xs : List Value) (hs : a.eval s = v) (hown : w.ownsRow base e 1 v n xs) (u : Value) (c : Nat)
    (hx : a.eval x = .slice (some ⟨w.heap.size, 0, none⟩) 1 c) (h1 : u.oneCell' = true)
    (hbytes : (n + 1) * bytes ≤ 140737488355328) (hn : n + 1 ≤ 140737488355328) (hbase : base ≤ w.heap.size)
    (h : ∀ v' w', w'.ownsRow base e 1 v' (n + 1) (xs ++ [u]) → w.grownBy w' v.ownBlock → (v'.ownBlock = v.ownBlock ∨ ∃ g, v'.ownBlock = some g ∧ w.heap.size ≤ g) → wpList P ops Q rest (a.put o.dst v') w') :
    wpList P ops Q (o :: rest) a (w.alloc (.cells #[u] e)) := by
  refine wpList_append_own_at _ hgd s x t ho base e i z 1 bytes ht hi hz hsize hby hzs (by omega) v n xs hs (hown.alloc _) ⟨w.heap.size, 0, none⟩ 1 c [u] hx rfl ?_ ?_ (by unfold maxLen; omega) hbytes (by simp; omega) ?_
  · intro j u' hj
    match j, hj with
    | 0, hj => simp at hj; subst hj; simp [Addr.add]
  · intro u' hu; simp at hu; subst hu; exact h1
  · intro v' w' hown' hg _ hat
    refine h v' w' hown' ?_ ?_
    · exact ⟨hg.os, hg.tape, hg.output, Nat.le_trans (by simp) hg.size, fun k hk hne => (hg.block k (by simp; omega) hne).trans (Below.heap_alloc w _ k hk)⟩
    · rcases hat with h1 | h1
      · exact .inl h1
      · exact .inr ⟨_, h1, by simp⟩

/-- append of a slice of numbers, nil and empty ones too, onto a row of the call's own. -/
theorem wpList_append_ns {ops : Array Oper} {rest : List Oper} {o : Oper} {a : Act} {Q : Exit → Act → World → Prop} (hgd : o.guard = none) (s x : Operand) (t : TypeId)
    (ho : o.op = .call { callee := .builtin .append, args := #[s, x], argTypes := #[t, t] })
    (base : Nat) (e : TypeId) (i : TypeInfo) (z : Value) (bytes : Nat) (ht : P.underlying t = some (.slice e)) (hi : P.info? e = some i) (hz : i.zero = some z)
    (hsize : i.size = 1) (hby : i.bytes = bytes) (hzs : z.cells.size = 1)
    (v : Value) (n : Nat) (xs : List Value) (hs : a.eval s = v) (hown : w.ownsRow base e 1 v n xs) (k : IntKind) (B : Nat) (A : Option Addr) (m c : Nat) (ys : List Int) (hm : ys.length = m)
    (hx : a.eval x = .slice A m c) (hr : Ns k w B A ys)
    (hbytes : (n + m) * bytes ≤ 140737488355328) (hn : n + m ≤ 140737488355328) (hbase : base ≤ w.heap.size)
    (h : ∀ v' w', w'.ownsRow base e 1 v' (n + m) (xs ++ nums k ys) → w.grownBy w' v.ownBlock → (v'.ownBlock = v.ownBlock ∨ v'.ownBlock = some w.heap.size) → wpList P ops Q rest (a.put o.dst v') w') :
    wpList P ops Q (o :: rest) a w := by
  subst hm
  have hone : ∀ u ∈ nums k ys, u.oneCell' = true := by
    intro u hu
    obtain ⟨y, _, rfl⟩ := List.mem_map.1 hu
    rfl
  rcases A with _ | ad
  · have h0 : ys = [] := by
      rcases Nat.eq_zero_or_pos ys.length with h0 | h0
      · exact List.eq_nil_of_length_eq_zero h0
      · obtain ⟨b, off, he, _⟩ := hr h0
        cases he
    subst h0
    refine wpList_plain hgd fun K hK => ?_
    have hrun : (Builtin.append_ #[t, t] o.type #[v, .slice none 0 c]).run P w = .ok v w := by
      rcases hown.2 with ⟨rfl, rfl⟩ | ⟨g, cap, cur, rfl, _, _, hnc, _⟩
      · simp [Builtin.append_, run_underlying ht, sizeOf, typeInfo, hi, Builtin.lenOf, Builtin.firstCells]
      · simp [Builtin.append_, run_underlying ht, sizeOf, typeInfo, hi, Builtin.lenOf, Builtin.firstCells, hnc, storeCells]
    unfold Oper.wp execOp
    simp only [ho, resolve, invoke, builtin, Sem.run_bind, Sem.run_pure, Result.andThen_ok, List.map_toArray, List.map_cons, List.map_nil, hs, hx, List.length_nil, hrun]
    exact hK _ _ (h v w (by simpa [nums] using hown) (World.grownBy.refl w _) (.inl rfl))
  · have hcells : ∀ j u, (nums k ys)[j]? = some u → w.cell? (ad.add j) = some u := by
      intro j u hu
      have hj : j < ys.length := by
        rcases Nat.lt_or_ge j ys.length with h | h
        · exact h
        · rw [List.getElem?_eq_none (by rw [nums_length]; exact h)] at hu; cases hu
      obtain ⟨b, off, he, _, hc⟩ := hr (by omega)
      injection he with he
      subst he
      have hadd : (⟨b, off, none⟩ : Addr).add j = ⟨b, off + j, none⟩ := by unfold Addr.add; split <;> simp_all
      rw [hadd, hc j hj]
      rw [← hu]
      simp only [nums, List.getElem?_map, List.getD_eq_getElem?_getD, List.getElem?_eq_getElem hj, Option.map_some, Option.getD_some]
    exact wpList_append_own_at w hgd s x t ho base e i z 1 bytes ht hi hz hsize hby hzs (by omega) v n xs hs hown ad ys.length c (nums k ys) hx (by rw [nums_length]; omega) hcells hone (by unfold maxLen; omega) hbytes hbase
      fun v' w' h1 h2 _ h4 => h v' w' h1 h2 h4

/-- A slice of bytes turned into a string, nil and empty ones too. -/
theorem run_conv_ns {B : Nat} {A : Option Addr} {zs : List Int} (src e dst : TypeId) (hs : P.underlying src = some (.slice e)) (he : P.underlying e = some (.int .u8)) (hd : P.underlying dst = some .string) (c : Nat)
    (h : Ns .u8 w B A zs) : (convert src dst (.slice A zs.length c)).run P w = .ok (.string (strOfNums zs)) w := by
  rcases Nat.eq_zero_or_pos zs.length with h0 | h0
  · obtain rfl : zs = [] := List.eq_nil_of_length_eq_zero h0
    rw [run_convert_bytes_string w src dst e _ _ c hs he hd]
    cases A with
    | none => rfl
    | some a => simp [Conv.bytesToString, loadCells, loadCellsFrom]; rfl
  · obtain ⟨b, off, rfl, _, hc⟩ := h h0
    exact run_convert_bytes_arg w src e hs he b off zs.length c zs rfl hc dst hd
end

theorem str_inj {xs ys : List Int} (hx : ∀ z ∈ xs, 0 ≤ z ∧ z ≤ 255) (hy : ∀ z ∈ ys, 0 ≤ z ∧ z ≤ 255) (h : strOfNums xs = strOfNums ys) : xs = ys := by
  have h1 : (strOfNums xs).data.toList = (strOfNums ys).data.toList := by rw [h]
  simp only [strOfNums_data] at h1
  revert ys
  induction xs with
  | nil => intro ys hy _ h1; cases ys with
    | nil => rfl
    | cons y ys => simp at h1
  | cons x xs ih => intro ys hy _ h1; cases ys with
    | nil => simp at h1
    | cons y ys =>
      simp only [List.map_cons, List.cons.injEq] at h1
      obtain ⟨h2, h3⟩ := h1
      have hx0 := hx x (by simp)
      have hy0 := hy y (by simp)
      have h4 : (UInt8.ofNat x.toNat).toNat = (UInt8.ofNat y.toNat).toNat := by rw [h2]
      simp only [UInt8.toNat_ofNat'] at h4
      have h5 : x = y := by omega
      subst h5
      have h6 : xs = ys := ih (fun z hz => hx z (by simp [hz])) (fun z hz => hy z (by simp [hz])) (by unfold strOfNums; rw [h3]) h3
      rw [h6]

/-- A string's bytes as numbers. -/
def strNums (s : ByteArray) : List Int := s.data.toList.map fun b => (b.toNat : Int)
theorem strNums_length (s : ByteArray) : (strNums s).length = s.size := by unfold strNums; rw [List.length_map, Array.length_toList]; rfl
theorem strCells_nums (s : ByteArray) : Lib.strCells s = nums .u8 (strNums s) := by simp [Lib.strCells, nums, strNums]
theorem strNums_bytes (s : ByteArray) : ∀ z ∈ strNums s, 0 ≤ z ∧ z ≤ 255 := by
  intro z hz
  obtain ⟨b, _, rfl⟩ := List.mem_map.1 hz
  have := b.toNat_lt
  omega
theorem strNums_at (s : ByteArray) (k : Nat) (h : k < s.size) : (strNums s).take (k + 1) = (strNums s).take k ++ [((s[k]'h).toNat : Int)] := by
  rw [List.take_succ_eq_append_getElem (by rw [strNums_length]; exact h)]
  simp only [strNums, List.getElem_map]
  rfl
theorem strNums_of (zs : List Int) (h : ∀ z ∈ zs, 0 ≤ z ∧ z ≤ 255) : strNums (strOfNums zs) = zs := by
  unfold strNums
  rw [strOfNums_data, List.map_map]
  have : ∀ z ∈ zs, ((fun b : UInt8 => (b.toNat : Int)) ∘ fun n : Int => UInt8.ofNat n.toNat) z = z := by
    intro z hz
    have := h z hz
    simp only [Function.comp, UInt8.toNat_ofNat']
    omega
  rw [List.map_congr_left this, List.map_id']
theorem strOf_nums (s : ByteArray) : strOfNums (strNums s) = s := by
  have h : (strOfNums (strNums s)).data.toList = s.data.toList := by
    rw [strOfNums_data, strNums, List.map_map]
    have : ∀ b ∈ s.data.toList, ((fun n : Int => UInt8.ofNat n.toNat) ∘ fun b : UInt8 => (b.toNat : Int)) b = b := by
      intro b _
      simp
    rw [List.map_congr_left this, List.map_id']
  exact ByteArray.ext (Array.toList_inj.1 h)
theorem ns_more {k : IntKind} {w : World} {A : Option Addr} {zs : List Int} {B : Nat} (h : Ns k w B A zs) (hB : B ≤ w.heap.size) : Ns k w w.heap.size A zs := h.more hB

theorem Ns.take {k : IntKind} {w : World} {B : Nat} {A : Option Addr} {zs : List Int} (h : Ns k w B A zs) (n : Nat) : Ns k w B A (zs.take n) := by
  intro hp
  rw [List.length_take] at hp
  obtain ⟨b, off, e, hb, hc⟩ := h (by omega)
  refine ⟨b, off, e, hb, fun j hj => ?_⟩
  rw [List.length_take] at hj
  rw [hc j (by omega)]
  simp [List.getD_eq_getElem?_getD, show j < n by omega]

theorem Ns.cut {k : IntKind} {w : World} {B b off : Nat} {zs : List Int} (h : Ns k w B (some ⟨b, off, none⟩) zs) (p m : Nat) : Ns k w B (some ⟨b, off + p, none⟩) ((zs.drop p).take m) := by
  intro hp
  rw [List.length_take, List.length_drop] at hp
  obtain ⟨b', off', e, hb, hc⟩ := h (by omega)
  injection e with e
  injection e with e1 e2 e3
  subst e1
  subst e2
  refine ⟨b, off + p, rfl, hb, fun j hj => ?_⟩
  rw [List.length_take, List.length_drop] at hj
  rw [Nat.add_assoc, hc (p + j) (by omega)]
  simp [List.getD_eq_getElem?_getD, List.getElem?_drop, show j < m by omega]
theorem cut_len {zs : List Int} {p m : Nat} (h : p + m ≤ zs.length) : ((zs.drop p).take m).length = m := by rw [List.length_take, List.length_drop]; omega

theorem own_base {w : World} {base base' : Nat} {e : TypeId} {size : Nat} {v : Value} {n : Nat} {xs : List Value} (h : w.ownsRow base e size v n xs) (hB : base' ≤ base) : w.ownsRow base' e size v n xs := by
  refine ⟨h.1, ?_⟩
  rcases h.2 with hn | ⟨g, cap, cur, rfl, hbg, hg, rest⟩
  · exact .inl hn
  · exact .inr ⟨g, cap, cur, rfl, by omega, hg, rest⟩
/-- What was made by a call later on was made by the whole. -/
theorem made_later {e : TypeId} {k : IntKind} {zs : List Int} {w w1 w2 : World} {r : Ending} (h : MadeNs e k zs w1 r w2) (hb : Below w.heap.size w w1) : MadeNs e k zs w r w2 := by
  obtain ⟨A, c, rfl, o, b⟩ := h
  exact ⟨A, c, rfl, own_base o hb.size, hb.trans (b.mono hb.size)⟩
theorem own_len {w : World} {base : Nat} {e : TypeId} {size : Nat} {A : Option Addr} {n c m : Nat} {xs : List Value} (h : w.ownsRow base e size (.slice A n c) m xs) : n = m ∧ n ≤ c := by
  rcases h.2 with ⟨h1, h2⟩ | ⟨g, cap, cur, h1, _, _, h2, _⟩
  · injection h1; omega
  · injection h1; omega
end Go.Proofs.YtegiigeelcnemaaGreat

/-
  Plain words of layer 1: a number's bytes, read one by one.
-/
namespace Go.Proofs.YtegiigeelcnemaaGreat
namespace Num
open Go.RowKit

/-- What is read from a list of bytes on, whose first one stands at the place p, behind i bytes that said n: the number, the place behind it, the error. -/
def numR : List Int → Nat → Nat → Int → Int × Nat × Int
  | [], _, _, _ => (0, 0, 4)
  | c :: r, p, i, n =>
    if (i = 8 ∧ 127 < c) ∨ (0 < i ∧ c = 0) then (0, 0, 2)
    else if c < 128 then (n + c * 128 ^ i, p + 1, 0)
    else numR r (p + 1) (i + 1) (n + (c - 128) * 128 ^ i)

/-- What Num tells of bytes and a place within. -/
def numF (zs : List Int) (i : Nat) : Int × Nat × Int := numR (zs.drop i) i 0 0

theorem numR_end (zs : List Int) (i k : Nat) (a : Int) (h : zs.length ≤ i + k) : numR (zs.drop (i + k)) (i + k) k a = (0, 0, 4) := by
  rw [List.drop_of_length_le h]; rfl
theorem numR_at (zs : List Int) (i k : Nat) (a z : Int) (h : i + k < zs.length) (hz : zs.getD (i + k) 0 = z) :
    numR (zs.drop (i + k)) (i + k) k a =
      if (k = 8 ∧ 127 < z) ∨ (0 < k ∧ z = 0) then (0, 0, 2)
      else if z < 128 then (a + z * 128 ^ k, i + k + 1, 0)
      else numR (zs.drop (i + (k + 1))) (i + (k + 1)) (k + 1) (a + (z - 128) * 128 ^ k) := by
  have e : zs[i + k] = z := by rw [← hz, List.getD_eq_getElem?_getD, List.getElem?_eq_getElem h]; rfl
  rw [List.drop_eq_getElem_cons h, e]; rfl
theorem numR_bad (zs : List Int) (i k : Nat) (a z : Int) (h : i + k < zs.length) (hz : zs.getD (i + k) 0 = z) (hb : (k = 8 ∧ 127 < z) ∨ (0 < k ∧ z = 0)) :
    numR (zs.drop (i + k)) (i + k) k a = (0, 0, 2) := by rw [numR_at zs i k a z h hz, if_pos hb]
theorem numR_last (zs : List Int) (i k : Nat) (a z : Int) (h : i + k < zs.length) (hz : zs.getD (i + k) 0 = z) (hb : ¬ (0 < k ∧ z = 0)) (hl : z < 128) :
    numR (zs.drop (i + k)) (i + k) k a = (a + z * 128 ^ k, i + k + 1, 0) := by rw [numR_at zs i k a z h hz, if_neg (by omega), if_pos hl]
theorem numR_more (zs : List Int) (i k : Nat) (a z : Int) (h : i + k < zs.length) (hz : zs.getD (i + k) 0 = z) (hb : k < 8) (hl : 128 ≤ z) :
    numR (zs.drop (i + k)) (i + k) k a = numR (zs.drop (i + (k + 1))) (i + (k + 1)) (k + 1) (a + (z - 128) * 128 ^ k) := by rw [numR_at zs i k a z h hz, if_neg (by omega), if_neg (by omega)]

theorem ofInt_nat (a : Nat) (ha : a < 9223372036854775808) : (BitVec.ofInt 64 (a : Int)).toNat = a := by
  rw [BitVec.ofInt_natCast, BitVec.toNat_ofNat]; exact Nat.mod_eq_of_lt (by omega)
theorem or_nat (a b : Nat) (ha : a < 9223372036854775808) (hb : b < 9223372036854775808) : bits .or .i64 (a : Int) (b : Int) = ((a ||| b : Nat) : Int) := by
  have hx : a ||| b < 2 ^ 63 := Nat.or_lt_two_pow (by omega) (by omega)
  show IntKind.i64.wrap ((BitVec.ofInt 64 (a : Int) ||| BitVec.ofInt 64 (b : Int)).toNat : Int) = _
  rw [BitVec.toNat_or, ofInt_nat a ha, ofInt_nat b hb, IntKind.wrap_i64]
  omega

theorem pow_128 (k : Nat) : (128 : Nat) ^ k = 2 ^ (7 * k) := by rw [Nat.pow_mul]
theorem pow_le (k : Nat) (hk : k ≤ 8) : (128 : Nat) ^ k ≤ 72057594037927936 := by
  have : (128 : Nat) ^ k ≤ 128 ^ 8 := Nat.pow_le_pow_right (by omega) hk
  omega

/-- The bits of one byte more are laid beside those that there are. -/
theorem or_step (k : Nat) (a x : Int) (hk : k ≤ 8) (ha : 0 ≤ a) (hak : a < 128 ^ k) (hx : 0 ≤ x) (hx1 : x < 128) :
    bits .or .i64 a (wrap64 (x * 2 ^ (7 * k))) = a + x * 128 ^ k := by
  obtain ⟨m, rfl⟩ := Int.eq_ofNat_of_zero_le ha
  obtain ⟨y, rfl⟩ := Int.eq_ofNat_of_zero_le hx
  have hp := pow_le k hk
  have hm : m < 128 ^ k := by exact_mod_cast hak
  have hyk : y * 128 ^ k ≤ 127 * 128 ^ k := Nat.mul_le_mul_right _ (by omega)
  have e1 : (y : Int) * 2 ^ (7 * k) = ((y * 128 ^ k : Nat) : Int) := by rw [pow_128]; push_cast; rfl
  have e2 : (y : Int) * 128 ^ k = ((y * 128 ^ k : Nat) : Int) := by push_cast; rfl
  rw [e1, e2, IntWalk.wrap64_in _ ⟨by omega, by omega⟩, or_nat _ _ (by omega) (by omega)]
  have := Nat.two_pow_add_eq_or_of_lt (i := 7 * k) (b := m) (by rw [← pow_128]; exact hm) y
  rw [Nat.or_comm, Nat.mul_comm y, pow_128, ← this]
  push_cast
  omega

theorem or_low (k : Nat) (a z : Int) (hk : k ≤ 8) (ha : 0 ≤ a) (hak : a < 128 ^ k) (hx : 0 ≤ z) (hx1 : z < 128) : bits .or .i64 a (wrap64 (z % 128 * 2 ^ (7 * k))) = a + z * 128 ^ k := by
  rw [show z % 128 = z by omega]; exact or_step k a z hk ha hak hx hx1
theorem or_high (k : Nat) (a z : Int) (hk : k ≤ 8) (ha : 0 ≤ a) (hak : a < 128 ^ k) (hx : 128 ≤ z) (hx1 : z < 256) : bits .or .i64 a (wrap64 (z % 128 * 2 ^ (7 * k))) = a + (z - 128) * 128 ^ k := by
  rw [show z % 128 = z - 128 by omega]; exact or_step k a (z - 128) hk ha hak (by omega) (by omega)
theorem or_low8 (k : Nat) (a z : Int) (hk : k = 8) (ha : 0 ≤ a) (hak : a < 128 ^ k) (hx : 0 ≤ z) (hx1 : z < 128) : bits .or .i64 a (z % 128 * 72057594037927936) = a + z * 128 ^ k := by
  have h := or_low k a z (by omega) ha hak hx hx1
  subst hk
  rw [← h, IntWalk.wrap64_in _ ⟨by omega, by omega⟩]
  rfl

theorem one_le (k : Nat) (hk : k ≤ 8) : 1 ≤ (128 : Int) ^ k ∧ (128 : Int) ^ k ≤ 72057594037927936 := by
  have h1 : 0 < (128 : Nat) ^ k := Nat.pow_pos (by omega)
  have h2 := pow_le k hk
  have h3 : (((128 : Nat) ^ k : Nat) : Int) = (128 : Int) ^ k := by push_cast; rfl
  omega

theorem add_step (k : Nat) (a x : Int) (hk : k ≤ 8) (ha : 0 ≤ a) (hak : a < 128 ^ k) (hx : 0 ≤ x) (hx1 : x < 128) : wrap64 (a + wrap64 (x * 128 ^ k)) = a + x * 128 ^ k := by
  obtain ⟨h1, h2⟩ := one_le k hk
  have h3 : x * 128 ^ k ≤ 127 * 128 ^ k := Int.mul_le_mul_of_nonneg_right (by omega) (by omega)
  have h4 : 0 ≤ x * 128 ^ k := Int.mul_nonneg hx (by omega)
  rw [IntWalk.wrap64_in (x * 128 ^ k) ⟨by omega, by omega⟩, IntWalk.wrap64_in _ ⟨by omega, by omega⟩]
theorem add_low (k : Nat) (a z : Int) (hk : k ≤ 8) (ha : 0 ≤ a) (hak : a < 128 ^ k) (hx : 0 ≤ z) (hx1 : z < 128) : wrap64 (a + wrap64 (z % 128 * 128 ^ k)) = a + z * 128 ^ k := by
  rw [show z % 128 = z by omega]; exact add_step k a z hk ha hak hx hx1
theorem add_high (k : Nat) (a z : Int) (hk : k ≤ 8) (ha : 0 ≤ a) (hak : a < 128 ^ k) (hx : 128 ≤ z) (hx1 : z < 256) : wrap64 (a + wrap64 (z % 128 * 128 ^ k)) = a + (z - 128) * 128 ^ k := by
  rw [show z % 128 = z - 128 by omega]; exact add_step k a (z - 128) hk ha hak (by omega) (by omega)
theorem one_more (k : Nat) (hk : k < 8) : (128 : Int) ^ k ≤ 562949953421312 := by
  obtain ⟨h1, h2⟩ := one_le (k + 1) (by omega)
  rw [Int.pow_succ] at h2
  omega

theorem acc_lt (k : Nat) (a x : Int) (hak : a < 128 ^ k) (hx1 : x < 128) : a + x * 128 ^ k < 128 ^ (k + 1) := by
  have h0 : (0 : Int) < 128 ^ k := Int.pow_pos (by omega)
  have : x * 128 ^ k ≤ 127 * 128 ^ k := Int.mul_le_mul_of_nonneg_right (by omega) (by omega)
  rw [Int.pow_succ]
  omega
theorem acc_ge (k : Nat) (a x : Int) (ha : 0 ≤ a) (hx : 0 ≤ x) : 0 ≤ a + x * 128 ^ k := by
  have h0 : (0 : Int) < 128 ^ k := Int.pow_pos (by omega)
  have := Int.mul_nonneg hx (by omega : (0 : Int) ≤ 128 ^ k)
  omega

/-- The bytes of a number, at most so many. -/
def putF : Nat → Int → List Int
  | 0, _ => []
  | k + 1, n => if n < 128 then [n] else (n % 128 + 128) :: putF k (n / 128)
def putL (n : Int) : List Int := putF 9 n

theorem putF_last (k : Nat) (n : Int) (h : n < 128) : putF (k + 1) n = [n] := by rw [putF, if_pos h]
theorem putF_more (k : Nat) (n : Int) (h : 128 ≤ n) : putF (k + 1) n = (n % 128 + 128) :: putF k (n / 128) := by rw [putF, if_neg (by omega)]

/-- How a number's bytes are laid: acc is laid, m is left, of which there are at most f + 1 bytes. -/
def Laid (n : Int) (acc : List Int) (f : Nat) (m : Int) : Prop := putL n = acc ++ putF (f + 1) m ∧ m < 128 ^ (f + 1) ∧ acc.length + (f + 1) = 9
theorem laid_start (n : Int) (h : n ≤ 9223372036854775807) : Laid n [] 8 n := ⟨rfl, by omega, rfl⟩
theorem laid_len {n : Int} {acc : List Int} {f : Nat} {m : Int} (h : Laid n acc f m) : acc.length ≤ 8 := by have := h.2.2; omega
theorem laid_more {n : Int} {acc : List Int} {f : Nat} {m : Int} (h : Laid n acc f m) (hm : 128 ≤ m) : ∃ g, Laid n (acc ++ [m % 128 + 128]) g (m / 128) := by
  obtain ⟨h1, h2, h3⟩ := h
  cases f with
  | zero => simp at h2; omega
  | succ g =>
    refine ⟨g, ?_, ?_, by simp; omega⟩
    · rw [h1, putF_more _ _ hm]; simp
    · rw [Int.pow_succ] at h2
      exact Int.ediv_lt_of_lt_mul (by omega) h2
theorem laid_last {n : Int} {acc : List Int} {f : Nat} {m : Int} (h : Laid n acc f m) (hm : m < 128) : putL n = acc ++ [m] := by
  rw [h.1, putF_last _ _ hm]

theorem putF_bytes : ∀ (k : Nat) (n : Int), 0 ≤ n → ∀ z ∈ putF k n, 0 ≤ z ∧ z ≤ 255
  | 0, _, _, z, hz => by simp [putF] at hz
  | k + 1, n, hn, z, hz => by
    by_cases h : n < 128
    · rw [putF_last _ _ h] at hz; simp at hz; omega
    · rw [putF_more _ _ (by omega)] at hz
      rcases List.mem_cons.1 hz with rfl | hz
      · omega
      · exact putF_bytes k (n / 128) (by omega) z hz
theorem putF_len : ∀ (k : Nat) (n : Int), (putF k n).length ≤ k
  | 0, _ => by simp [putF]
  | k + 1, n => by
    by_cases h : n < 128
    · rw [putF_last _ _ h]; simp
    · rw [putF_more _ _ (by omega)]; have := putF_len k (n / 128); simp; omega
theorem putF_pos (k : Nat) (n : Int) : 1 ≤ (putF (k + 1) n).length := by
  by_cases h : n < 128
  · rw [putF_last _ _ h]; simp
  · rw [putF_more _ _ (by omega)]; simp

theorem numR_err : ∀ (l : List Int) (p i : Nat) (a n : Int) (q : Nat) (e : Int), numR l p i a = (n, q, e) → e ≠ 0 → n = 0 ∧ q = 0
  | [], p, i, a, n, q, e, h, he => by
    simp only [numR, Prod.mk.injEq] at h
    exact ⟨h.1.symm, h.2.1.symm⟩
  | c :: r, p, i, a, n, q, e, h, he => by
    rw [numR] at h
    by_cases hb : (i = 8 ∧ 127 < c) ∨ (0 < i ∧ c = 0)
    · rw [if_pos hb] at h
      simp only [Prod.mk.injEq] at h
      exact ⟨h.1.symm, h.2.1.symm⟩
    · rw [if_neg hb] at h
      by_cases hc : c < 128
      · rw [if_pos hc] at h
        simp only [Prod.mk.injEq] at h
        omega
      · rw [if_neg hc] at h
        exact numR_err r _ _ _ n q e h he

/-- What is read has the bytes that its number has. -/
theorem numR_ok : ∀ (l : List Int) (p i : Nat) (a n : Int) (q : Nat), (∀ z ∈ l, 0 ≤ z ∧ z ≤ 255) → i ≤ 8 → numR l p i a = (n, q, 0) →
    ∃ (m : Int) (k : Nat), 0 ≤ m ∧ m < 128 ^ (9 - i) ∧ (0 < i → 1 ≤ m) ∧ n = a + m * 128 ^ i ∧ q = p + k ∧ 1 ≤ k ∧ k ≤ l.length ∧ l.take k = putF (9 - i) m
  | [], p, i, a, n, q, _, _, h => by simp [numR] at h
  | c :: r, p, i, a, n, q, hby, hi, h => by
    have hc0 := hby c (by simp)
    obtain ⟨j, hj⟩ : ∃ j, 9 - i = j + 1 := ⟨8 - i, by omega⟩
    have hpow : (0 : Int) < 128 ^ j := Int.pow_pos (by omega)
    rw [numR] at h
    by_cases hb : (i = 8 ∧ 127 < c) ∨ (0 < i ∧ c = 0)
    · rw [if_pos hb] at h
      simp at h
    · rw [if_neg hb] at h
      by_cases hc : c < 128
      · rw [if_pos hc] at h
        simp only [Prod.mk.injEq] at h
        refine ⟨c, 1, by omega, ?_, by omega, h.1.symm, by omega, by omega, by simp, ?_⟩
        · rw [hj, Int.pow_succ]
          omega
        · rw [hj, putF_last _ _ hc]
          rfl
      · rw [if_neg hc] at h
        obtain ⟨m, k, h1, h2, h3, h4, h5, h6, h7, h8⟩ := numR_ok r (p + 1) (i + 1) _ n q (fun z hz => hby z (by simp [hz])) (by omega) h
        have h3' := h3 (by omega)
        have hj' : 9 - (i + 1) = j := by omega
        rw [hj'] at h2 h8
        refine ⟨c - 128 + m * 128, k + 1, by omega, ?_, by omega, ?_, by omega, by omega, by simp; omega, ?_⟩
        · rw [hj, Int.pow_succ]
          omega
        · rw [h4, Int.pow_succ, Int.add_mul, Int.mul_assoc, Int.mul_comm 128, Int.add_assoc]
        · rw [hj, putF_more _ _ (by omega), List.take_succ_cons, h8]
          congr 2
          · omega
          · omega

/-- A number's bytes are read as it, whatever stands behind. -/
theorem numR_put : ∀ (j i p : Nat) (a m : Int) (r : List Int), 9 - i = j + 1 → i ≤ 8 → 0 ≤ m → m < 128 ^ (j + 1) → (0 < i → 1 ≤ m) →
    numR (putF (j + 1) m ++ r) p i a = (a + m * 128 ^ i, p + (putF (j + 1) m).length, 0)
  | j, i, p, a, m, r, hj, hi, h0, h1, h2 => by
    by_cases hm : m < 128
    · rw [putF_last _ _ hm]
      show numR (m :: r) p i a = _
      rw [numR, if_neg (by omega), if_pos hm]
      rfl
    · rw [putF_more _ _ (by omega)]
      cases j with
      | zero => simp at h1; omega
      | succ j =>
        show numR ((m % 128 + 128) :: (putF (j + 1) (m / 128) ++ r)) p i a = _
        rw [numR, if_neg (by omega), if_neg (by omega), numR_put j (i + 1) (p + 1) _ (m / 128) r (by omega) (by omega) (by omega) (by rw [Int.pow_succ] at h1; exact Int.ediv_lt_of_lt_mul (by omega) h1) (by omega)]
        refine Prod.ext ?_ (Prod.ext ?_ rfl)
        · show a + (m % 128 + 128 - 128) * 128 ^ i + m / 128 * 128 ^ (i + 1) = a + m * 128 ^ i
          rw [Int.pow_succ, Int.add_sub_cancel, Int.mul_comm (128 ^ i) 128, ← Int.mul_assoc, Int.add_assoc, ← Int.add_mul]
          congr 2
          omega
        · simp only [List.length_cons]
          omega

theorem numF_put (n : Int) (h0 : 0 ≤ n) (h1 : n ≤ 9223372036854775807) (xs ys : List Int) : numF (xs ++ putL n ++ ys) xs.length = (n, xs.length + (putL n).length, 0) := by
  unfold numF
  rw [List.append_assoc, List.drop_left]
  have h := numR_put 8 0 xs.length 0 n ys (by omega) (by omega) h0 (by omega) (by omega)
  rw [show putL n = putF (8 + 1) n from rfl, h]
  simp
theorem putL_len (n : Int) : 1 ≤ (putL n).length ∧ (putL n).length ≤ 9 := ⟨putF_pos 8 n, putF_len 9 n⟩
theorem putL_bytes (n : Int) (h : 0 ≤ n) : ∀ z ∈ putL n, 0 ≤ z ∧ z ≤ 255 := putF_bytes 9 n h

theorem numF_ok {zs : List Int} {i p : Nat} {n : Int} (hby : ∀ z ∈ zs, 0 ≤ z ∧ z ≤ 255) (h : numF zs i = (n, p, 0)) : 0 ≤ n ∧ n ≤ 9223372036854775807 ∧ i < p ∧ p ≤ zs.length := by
  obtain ⟨m, k, g1, g2, g3, g4, g5, g6, g7, g8⟩ := numR_ok (zs.drop i) i 0 0 n p (fun z hz => hby z (List.mem_of_mem_drop hz)) (by omega) h
  rw [List.length_drop] at g7
  have hm : m < 128 ^ 9 := g2
  have hn : n = m := by rw [g4]; simp
  subst hn
  omega
theorem numF_err {zs : List Int} {i p : Nat} {n e : Int} (h : numF zs i = (n, p, e)) (he : e ≠ 0) : n = 0 ∧ p = 0 := numR_err _ _ _ _ _ _ _ h he

theorem ret3 {ka kb kc : IntKind} {a a' b b' c c' : Int} (h1 : a = a') (h2 : b = b') (h3 : c = c') :
    Ending.returned (.tuple #[.int ka a, .int kb b, .int kc c]) = .returned (.tuple #[.int ka a', .int kb b', .int kc c']) := by rw [h1, h2, h3]
end Num
end Go.Proofs.YtegiigeelcnemaaGreat

/-
  What a law's row asks, said once for all laws: whatever only makes memory of its own and answers true meets it.
-/
namespace Go.Proofs.YtegiigeelcnemaaGreat
open Go.ChangeShapes Go.WideShapes Go.ChangeAt Go.RowKit

section
variable {H : Type} {enc : TypeId × Value → H} {P : Program} {W W' : World}

theorem stays_all (hl : laidOutB P = true) (hb : Below W.heap.size W W') : ∀ (ts : List TypeId) (vs : List Value) (ds : List (DataW H)) (ps : List MemPlace),
    (∀ t ∈ ts, P.readableRec t = true ∧ t < P.types.size) → (∀ x ∈ ps, x.block < W.heap.size) →
    DataW.TrodAll enc P W 0 (fun _ => true) true ts vs ds ps → DataW.TrodAll enc P W' 0 (fun b => decide (b < W.heap.size)) true ts vs ds ps := by
  intro ts
  induction ts with
  | nil =>
    intro vs ds ps _ _ h
    obtain ⟨rfl, rfl, rfl⟩ := trodAll_nil h
    exact rfl
  | cons t ts ih =>
    intro vs ds ps ht hp h
    obtain ⟨v, vs', d, ds', p, q, rfl, rfl, rfl, h1, h2⟩ := trodAll_cons h
    obtain ⟨hr, hrow⟩ := ht t (by simp)
    exact ⟨p, q, Below.trod hl hr hrow h1 hb (fun x hx => hp x (by simp [hx])), ih vs' ds' q (fun t' h' => ht t' (by simp [h'])) (fun x hx => hp x (by simp [hx])) h2, rfl⟩

/-- The post of a law that answers true and leaves all old memory as it was. -/
theorem law_post {f : Func} {s : ChangeSpec} {tb : TypeId} {args : Array Value} {ds gs : List (DataW H)} {before p q : List MemPlace} (hl : laidOutB P = true)
    (hrt : f.resultTypes = #[tb]) (htb : P.underlying tb = some .bool) (hts : ∀ t ∈ f.params.toList, P.readableRec t = true ∧ t < P.types.size)
    (hW : DataW.Whole enc P f.params.toList s.vars false W args.toList ds gs before)
    (hA : DataW.TrodAll enc P W 0 (fun _ => true) true f.params.toList args.toList ds p) (hsv : s.vars = []) (hbef : before = p ++ q)
    (hres : (s.fn H (ds ++ gs)).results = [.lit (.bool true)]) (harg : (s.fn H (ds ++ gs)).args = ds) (hvar : (s.fn H (ds ++ gs)).vars = [])
    (hb : Below W.heap.size W W') : s.post enc P f false true false false W args (.bool true) W' := by
  have hlt : ∀ x ∈ before, x.block < W.heap.size := fun x hx => hW.lt x hx
  refine ⟨ds, gs, before, [], p, [], hW, ?_, ?_, ?_, hb.frame _, fun h => by cases h⟩
  · rw [hres, hrt]
    exact trodAll_mk1 (shut_bool htb true)
  · rw [harg]
    exact stays_all hl hb _ _ _ _ hts (fun x hx => hlt x (by rw [hbef]; simp [hx])) hA
  · rw [hvar, hsv]
    exact rfl

/-- A slice of numbers among the arguments, nil and empty ones too. -/
theorem open_ns {t e : TypeId} {k : IntKind} {v : Value} {d : DataW H} {p : List MemPlace} {r : Reach} {b0 : Nat} (ht : P.underlying t = some (.slice e)) (he : P.underlying e = some (.int k)) (hc : P.cellsOf e = 1)
    (hv : Value.okWide P W r b0 t v) (h : DataW.Trod enc P W 0 (fun _ => true) true t v d p) :
    ∃ (A : Option Addr) (c : Nat) (zs : List Int), v = .slice A zs.length c ∧ Ns k W W.heap.size A zs ∧ (∀ n ∈ zs, (Lit.int k n).wf = true) ∧ zs.length ≤ c ∧ c ≤ maxLen ∧
      ((d = .nil ∧ A = none ∧ zs = [] ∧ c = 0) ∨ ∃ el sp, d = .slice el sp ∧ c = el.length + sp.length ∧ el = lits k zs) := by
  obtain ⟨A, len, c, rfl⟩ := okWide_slice ht hv
  obtain ⟨fuel, hf⟩ := h
  rcases open_ints ht he hc hf with ⟨hcs, hx⟩ | ⟨a, len', cap', zs, hcs, _, hl, hm, hz, hx, hcell, hwz⟩
  · simp [Value.cells] at hcs
    obtain ⟨rfl, rfl, rfl⟩ := hcs
    simp only [Prod.mk.injEq] at hx
    exact ⟨none, 0, [], rfl, Ns.nil _, by simp, by simp, by simp [maxLen], .inl ⟨hx.1, rfl, rfl, rfl⟩⟩
  · simp [Value.cells] at hcs
    obtain ⟨rfl, rfl, rfl⟩ := hcs
    simp only [Prod.mk.injEq] at hx
    simp only [if_true] at hz
    have hlen : (zs.take len).length = len := by simp; omega
    refine ⟨some a, c, zs.take len, by rw [hlen], fun hp => ?_, fun n hn => hwz n (List.mem_of_mem_take hn), by omega, hm, .inr ⟨_, _, hx.1, ?_, rfl⟩⟩
    · rw [hlen] at hp
      obtain ⟨b, off, rfl, hat⟩ := ints_at hcell (by omega)
      have h0 := hat 0 (by omega)
      refine ⟨b, off, rfl, World.block_lt_of_cell? W _ h0, fun j hj => ?_⟩
      rw [hlen] at hj
      rw [hat j (by omega)]
      simp [List.getD_eq_getElem?_getD, hj]
    · simp [lits]; omega

theorem wf_byte {n : Int} (h : (Lit.int .u8 n).wf = true) : 0 ≤ n ∧ n ≤ 255 := by
  simpa [Lit.wf, IntKind.min, IntKind.max, IntKind.signed, IntKind.bits] using h
theorem wf_int {n : Int} (h : (Lit.int .i64 n).wf = true) : -9223372036854775808 ≤ n ∧ n ≤ 9223372036854775807 := by
  simpa [Lit.wf, IntKind.min, IntKind.max, IntKind.signed, IntKind.bits] using h

/-- How long a slice among the arguments may be, by the form's own reach. -/
theorem reach_ns {ts : List TypeId} {ds : List (DataW H)} {j : Nat} {t e : TypeId} {d : DataW H} {k : IntKind} {zs : List Int} {A : Option Addr} {c nb : Nat} (h : (DataW.weightsEach P ts ds).all (· ≤ reachBytes) = true)
    (ht : ts[j]? = some t) (hd : ds[j]? = some d) (hu : P.underlying t = some (.slice e)) (hb : P.bytesOf e = nb) (hlc : zs.length ≤ c)
    (ho : (d = .nil ∧ A = none ∧ zs = [] ∧ c = 0) ∨ ∃ el sp, d = .slice el sp ∧ c = el.length + sp.length ∧ el = lits k zs) : zs.length * nb ≤ 140737488351232 := by
  rcases ho with ⟨_, _, rfl, _⟩ | ⟨el, sp, rfl, hc, _⟩
  · simp
  · have := sized_slice h ht hd hu
    rw [hb] at this
    have h2 : zs.length * nb ≤ (el.length + sp.length) * nb := Nat.mul_le_mul_right _ (by omega)
    have h3 : reachBytes = 140737488351232 := by decide
    omega
end
end Go.Proofs.YtegiigeelcnemaaGreat

/-
  Closed facts of the program.
-/
namespace Go.Proofs.YtegiigeelcnemaaGreat
namespace Facts
theorem own : ownKnob Tryz.prog.godebug = none := by kernel_rfl
theorem laid : laidOutB Tryz.prog = true := by kernel_rfl
theorem cells5 : Tryz.prog.cellsOf 5 = 1 := by kernel_rfl
theorem bytes5 : Tryz.prog.bytesOf 5 = 1 := by kernel_rfl
theorem info5 : (Tryz.prog.info? 5).map (fun i => (i.zero, i.size, i.bytes)) = some (some (.int .u8 0), 1, 1) := by kernel_rfl
end Facts
end Go.Proofs.YtegiigeelcnemaaGreat

/-
  What a bound on the input's bulk says of its parts.
-/
namespace Go.Proofs.YtegiigeelcnemaaGreat
namespace Bulk
open Go.ChangeShapes Go.RowKit

theorem bound {H : Type} {l : List (DataW H)} (hk : Rows.uptoSmall H l = true) : Rows.uptoBulkAll l ≤ 1048576 := of_decide_eq_true hk

theorem lits_bulk {H : Type} (k : IntKind) (zs : List Int) : Rows.uptoBulkAll (H := H) (lits k zs) = zs.length := by
  induction zs with
  | nil => simp [lits, Rows.uptoBulkAll]
  | cons z zs ih =>
    have e : lits (H := H) k (z :: zs) = .lit (.int k z) :: lits k zs := by simp [lits]
    rw [e, Rows.uptoBulkAll, ih]
    simp [Rows.uptoBulk]
    omega

theorem ns_le {H : Type} {d : DataW H} {k : IntKind} {zs : List Int} {A : Option Addr} {c : Nat}
    (ho : (d = .nil ∧ A = none ∧ zs = [] ∧ c = 0) ∨ ∃ el sp, d = .slice el sp ∧ c = el.length + sp.length ∧ el = lits k zs) (_hlc : zs.length ≤ c) : zs.length ≤ Rows.uptoBulk d := by
  rcases ho with ⟨_, _, rfl, _⟩ | ⟨el, sp, rfl, _, rfl⟩
  · simp
  · simp only [Rows.uptoBulk, lits_bulk]
    omega

theorem str_le {H : Type} (s : ByteArray) : s.size ≤ Rows.uptoBulk (DataW.lit (H := H) (.string s.data.toList)) := by
  have h4 : s.data.toList.length = s.size := by rw [Array.length_toList]; rfl
  simp only [Rows.uptoBulk]
  omega
end Bulk
end Go.Proofs.YtegiigeelcnemaaGreat
