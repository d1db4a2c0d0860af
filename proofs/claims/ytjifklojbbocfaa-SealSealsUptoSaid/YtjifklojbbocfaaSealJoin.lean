/-
  Bytes that bytes.Join has made, and what is appended onto them.
-/
import Derived.Test.YtjifklojbbocfaaShelf
import Derived.Test.YtjifklojbbocfaaSealPlain
import Derived.Deep.AppendSrc
import Derived.Laws.IdiomCopy
namespace Go.Proofs.Ytjifklojbbocfaa
namespace Seal
open Go.RowKit Num Span Ring Go.Proofs.Ytjifklojbbocfaa.Code

/-- Bytes in a block from B on, all of whose room may be written. -/
def Fb (B : Nat) (w : World) (v : Value) (zs : List Int) : Prop :=
  ∃ g c, v = .slice (some ⟨g, 0, none⟩) zs.length c ∧ B ≤ g ∧ g < w.heap.size ∧ zs.length ≤ c ∧ c ≤ maxLen ∧
    (∀ j, j < zs.length → w.cell? ⟨g, j, none⟩ = some (.int .u8 (zs.getD j 0))) ∧ ∀ j, j < c → (w.cell? ⟨g, j, none⟩).isSome = true ∧ w.frozen? ⟨g, j, none⟩ = false
section
variable {B : Nat} {w w' : World} {v : Value} {zs : List Int}
theorem Fb.ns (h : Fb B w v zs) : ∃ A c, v = .slice A zs.length c ∧ Ns .u8 w w.heap.size A zs ∧ zs.length ≤ c := by
  obtain ⟨g, c, rfl, hB, hg, hc, hm, h1, h2⟩ := h
  exact ⟨_, _, rfl, fun _ => ⟨g, 0, rfl, hg, fun j hj => by rw [Nat.zero_add]; exact h1 j hj⟩, hc⟩
theorem Fb.keep {g : Nat} (hk : w'.heap[g]? = w.heap[g]?) (hl : w.heap.size ≤ w'.heap.size) (h : Fb B w v zs) (hv : ∀ n c a, v = .slice (some a) n c → a.block = g) : Fb B w' v zs := by
  obtain ⟨g', c, rfl, hB, hg, hc, hm, h1, h2⟩ := h
  have : g' = g := hv _ _ _ rfl
  subst this
  exact ⟨g', c, rfl, hB, by omega, hc, hm, fun j hj => (World.cell?_of_block (a := ⟨g', j, none⟩) hk).trans (h1 j hj), fun j hj => ⟨by rw [World.cell?_of_block (a := ⟨g', j, none⟩) hk]; exact (h2 j hj).1, (World.frozen?_of_block (a := ⟨g', j, none⟩) hk).trans (h2 j hj).2⟩⟩
theorem Fb.below (h : Fb B w v zs) (hb : Below w.heap.size w w') : Fb B w' v zs := by
  obtain ⟨g, c, rfl, hB, hg, hc, hm, h1, h2⟩ := h
  exact Fb.keep (hb.block g hg) hb.size ⟨g, c, rfl, hB, hg, hc, hm, h1, h2⟩ (fun n c a e => by injection e with e; injection e with e; rw [← e])
theorem Fb.less {B' : Nat} (h : Fb B w v zs) (hB : B' ≤ B) : Fb B' w v zs := by
  obtain ⟨g, c, rfl, h0, h⟩ := h
  exact ⟨g, c, rfl, by omega, h⟩
end

theorem nums_getD {k : IntKind} {zs : List Int} {j : Nat} (hj : j < zs.length) : (nums k zs)[j]? = some (.int k (zs.getD j 0)) := by
  simp only [nums, List.getElem?_map, List.getD_eq_getElem?_getD, List.getElem?_eq_getElem hj, Option.map_some, Option.getD_some]
theorem nums_inv {k : IntKind} {zs : List Int} {j : Nat} {u : Value} (h : (nums k zs)[j]? = some u) : j < zs.length ∧ u = .int k (zs.getD j 0) := by
  have hj : j < zs.length := by
    rcases Nat.lt_or_ge j zs.length with h1 | h1
    · exact h1
    · rw [List.getElem?_eq_none (by rw [nums_length]; exact h1)] at h; cases h
  rw [nums_getD hj] at h
  injection h with h
  exact ⟨hj, h.symm⟩
theorem oneCells (k : IntKind) (zs : List Int) : ∀ u ∈ nums k zs, u.oneCell' = true := by
  intro u hu
  obtain ⟨y, _, rfl⟩ := List.mem_map.1 hu
  rfl

theorem below_setCells (g : Nat) : ∀ (vs : List Value) (o : Nat) (w : World) (B : Nat), B ≤ g → Below B w (w.setCells g o vs)
  | [], _, w, B, _ => Below.refl B w
  | v :: r, o, w, B, h => by
    rw [World.setCells]
    exact ((Below.refl B w).setCell h v).trans (below_setCells g r (o + 1) _ B h)

theorem src_ns {P : Program} {w : World} {tx e' : TypeId} (hk : P.underlying tx = some (.slice e')) {B : Nat} {A : Option Addr} {ys : List Int} (h : Ns .u8 w B A ys) (hA : A = none → ys = []) (c : Nat) : Src P 1 tx (.slice A ys.length c) ys.length (nums .u8 ys) w := by
  rcases A with _ | a
  · obtain rfl := hA rfl
    exact Src.ofNil w hk c
  · refine Src.ofSlice w hk a ys.length c (nums .u8 ys) (by rw [nums_length]; omega) (fun j u hu => ?_) (oneCells _ _)
    obtain ⟨hj, rfl⟩ := nums_inv hu
    obtain ⟨b, off, he, _, hc⟩ := h (by omega)
    injection he with he
    subst he
    rw [Addr.add_lit]
    exact hc j hj

/-- An append onto such bytes. -/
theorem run_append_fb {P : Program} {w : World} (t ty e : TypeId) (i : TypeInfo) (z : Value) (ht : P.underlying t = some (.slice e)) (hi : P.info? e = some i) (hz : i.zero = some z) (hs1 : i.size = 1) (hb1 : i.bytes = 1) (hz1 : z.cells.size = 1)
    {B B' : Nat} {v : Value} {zs ys : List Int} {A : Option Addr} (h : Fb B w v zs) (hB : B ≤ w.heap.size) (c : Nat) (hy : Ns .u8 w B' A ys) (hA : A = none → ys = []) (hbig : zs.length + ys.length ≤ 140737488355328) :
    ∃ v' w', (Builtin.append_ #[t, t] ty #[v, .slice A ys.length c]).run P w = .ok v' w' ∧ Fb B w' v' (zs ++ ys) ∧ Below B w w' := by
  have hs := src_ns (P := P) ht hy hA c
  obtain ⟨g, cap, rfl, hBg, hg, hc, hm, h1, h2⟩ := h
  by_cases hfit : zs.length + ys.length ≤ cap
  · have hrun := run_append_room_src (P := P) w t t ty e i ht hi g 0 zs.length cap _ ys.length (nums .u8 ys) (by rw [hs1]; exact hs) hfit
      (fun j hj => by rw [nums_length] at hj; rw [hs1, Nat.zero_add, Nat.mul_one]; exact (h2 _ (by omega)).1) (fun j hj => by rw [nums_length] at hj; rw [hs1, Nat.zero_add, Nat.mul_one]; exact (h2 _ (by omega)).2)
    rw [hs1, Nat.zero_add, Nat.mul_one] at hrun
    have hb := below_setCells g (nums .u8 ys) zs.length w B hBg
    have hin := World.cell?_setCells_in g (nums .u8 ys) zs.length w (fun j hj => by rw [nums_length] at hj; exact (h2 _ (by omega)).1)
    refine ⟨_, _, hrun, ⟨g, cap, by rw [List.length_append], hBg, Nat.lt_of_lt_of_le hg hb.size, by rw [List.length_append]; exact hfit, hm, fun j hj => ?_, fun j hj => ⟨?_, ?_⟩⟩, hb⟩
    · rw [List.length_append] at hj
      by_cases hlt : j < zs.length
      · rw [World.cell?_setCells_out g _ _ _ _ (fun _ _ => .inl hlt), h1 j hlt]
        simp [List.getD_eq_getElem?_getD, List.getElem?_append_left hlt]
      · have := hin (j - zs.length) (by rw [nums_length]; omega)
        rw [show zs.length + (j - zs.length) = j by omega] at this
        rw [this]
        have e2 := nums_getD (k := .u8) (zs := ys) (j := j - zs.length) (by omega)
        rw [List.getElem?_eq_getElem (by rw [nums_length]; omega)] at e2
        injection e2 with e2
        rw [e2]
        simp [List.getD_eq_getElem?_getD, List.getElem?_append_right (show zs.length ≤ j by omega)]
    · by_cases hin' : zs.length ≤ j ∧ j < zs.length + ys.length
      · have := hin (j - zs.length) (by rw [nums_length]; omega)
        rw [show zs.length + (j - zs.length) = j by omega] at this
        rw [this]
        rfl
      · rw [World.cell?_setCells_out g _ _ _ _ (fun _ _ => by show j < zs.length ∨ _; rw [nums_length]; show j < zs.length ∨ zs.length + ys.length ≤ j; omega)]
        exact (h2 j hj).1
    · rw [World.frozen?_setCells]
      exact (h2 j hj).2
  · have hold : (Builtin.firstCells i.size zs.length (.slice (some ⟨g, 0, none⟩) zs.length cap)).run P w.drew = .ok (nums .u8 zs).toArray w.drew := by
      refine run_firstCells_some w.drew i.size zs.length ⟨g, 0, none⟩ zs.length cap (nums .u8 zs) (by rw [nums_length, hs1, Nat.mul_one]) (fun j u hu => ?_)
      obtain ⟨hj, rfl⟩ := nums_inv hu
      rw [Addr.add_lit, Nat.zero_add]
      exact h1 j hj
    have hrun := run_append_grow_src (P := P) w t t ty e i z ht hi hz _ zs.length cap (nums .u8 zs) hold _ ys.length (nums .u8 ys) (by rw [hs1]; exact hs) (by omega) (by omega) (growslice_fits (by omega) (by rw [hb1]; omega))
    have hge := grownCap_ge w (zs.length + ys.length) cap e
    have hcm := grownCap_le_maxLen w (zs.length + ys.length) cap e (by unfold maxLen; omega)
    have hL : (nums .u8 zs ++ nums .u8 ys).length = zs.length + ys.length := by rw [List.length_append, nums_length, nums_length]
    have hNN : nums .u8 zs ++ nums .u8 ys = nums .u8 (zs ++ ys) := by simp [nums]
    refine ⟨_, _, hrun, ⟨w.heap.size, _, by rw [List.length_append], hB, by simp, by rw [List.length_append]; exact hge, hcm, fun j hj => ?_, fun j hj => ⟨?_, ?_⟩⟩, ?_⟩
    · have e1 : (w.drew.alloc (.cells ((nums .u8 zs ++ nums .u8 ys).toArray ++ Builtin.zeroCells z.cells (grownCap w (zs.length + ys.length) cap e - (zs.length + ys.length))) e)).cell? ⟨w.heap.size, j, none⟩ = _ := World.cell?_alloc_new w.drew _ _ j
      rw [List.length_append] at hj
      rw [e1, Array.getElem?_append_left (by simp only [List.size_toArray]; rw [hL]; exact hj), List.getElem?_toArray, hNN]
      exact nums_getD (by rw [List.length_append]; exact hj)
    · have e1 : (w.drew.alloc (.cells ((nums .u8 zs ++ nums .u8 ys).toArray ++ Builtin.zeroCells z.cells (grownCap w (zs.length + ys.length) cap e - (zs.length + ys.length))) e)).cell? ⟨w.heap.size, j, none⟩ = _ := World.cell?_alloc_new w.drew _ _ j
      rw [e1]
      have hsz : ((nums .u8 zs ++ nums .u8 ys).toArray ++ Builtin.zeroCells z.cells (grownCap w (zs.length + ys.length) cap e - (zs.length + ys.length))).size = grownCap w (zs.length + ys.length) cap e := by
        rw [Array.size_append, List.size_toArray, hL, size_zeroCells, hz1]
        omega
      rw [Array.getElem?_eq_getElem (by rw [hsz]; exact hj)]
      rfl
    · exact World.frozen?_alloc_new w.drew _ _ j
    · exact (Below.refl B w).drew.alloc hB _

/-! ### bytes.Join of two parts or more -/
def u8s (zs : List Int) : List UInt8 := Lib.bytesOf zs
theorem u8s_length (zs : List Int) : (u8s zs).length = zs.length := by simp [u8s, Lib.bytesOf]
theorem u8s_nums {zs : List Int} (h : ∀ z ∈ zs, 0 ≤ z ∧ z ≤ 255) : Lib.numsL (u8s zs) = zs := by
  unfold Lib.numsL u8s Lib.bytesOf
  rw [List.map_map]
  conv => rhs; rw [← List.map_id zs]
  refine List.map_congr_left fun z hz => ?_
  have := h z hz
  simp only [Function.comp, UInt8.toNat_ofNat', id]
  omega
theorem holds_ns {w : World} {B : Nat} {A : Option Addr} {zs : List Int} (h : Ns .u8 w B A zs) (hb : ∀ z ∈ zs, 0 ≤ z ∧ z ≤ 255) (c : Nat) : Lib.HoldsBytes w (.slice A zs.length c) (u8s zs) := by
  refine ⟨A, c, by rw [u8s_length], fun hA => ?_, fun a ha i x hx => ?_⟩
  · rcases Nat.eq_zero_or_pos zs.length with h0 | h0
    · exact List.eq_nil_of_length_eq_zero (by rw [u8s_length, h0])
    · obtain ⟨b, off, he, _⟩ := h h0
      rw [hA] at he
      cases he
  · have hi : i < zs.length := by
      have := (List.getElem?_eq_some_iff.1 hx).1
      rwa [u8s_length] at this
    obtain ⟨b, off, he, _, hc⟩ := h (by omega)
    rw [he] at ha
    injection ha with ha
    subst ha
    rw [Addr.add_lit, hc i hi]
    have hx2 : x = UInt8.ofNat (zs[i]).toNat := by
      simp only [u8s, Lib.bytesOf, List.getElem?_map, List.getElem?_eq_getElem hi, Option.map_some, Option.some.injEq] at hx
      exact hx.symm
    have hr := hb _ (List.getElem_mem hi)
    have e : zs.getD i 0 = zs[i] := by simp [List.getD_eq_getElem?_getD, hi]
    rw [e, hx2]
    simp only [UInt8.toNat_ofNat', Option.some.injEq, Value.int.injEq, true_and]
    omega
theorem join_flat (ls : List (List UInt8)) : Lib.join ls [] = ls.flatten := by
  cases ls with
  | nil => rfl
  | cons x r =>
    rw [Lib.join_cons]
    simp [Lib.joinTail]
theorem nums_flat : ∀ (Ls : List (List Int)), (∀ l ∈ Ls, ∀ z ∈ l, 0 ≤ z ∧ z ≤ 255) → Lib.numsL ((Ls.map u8s).flatten) = Ls.flatten
  | [], _ => rfl
  | l :: Ls, h => by
    have h1 := u8s_nums (h l (by simp))
    have h2 := nums_flat Ls (fun m hm => h m (by simp [hm]))
    rw [List.map_cons, List.flatten_cons, List.flatten_cons, ← h2]
    conv => rhs; rw [← h1]
    simp [Lib.numsL]
theorem lens_flat : ∀ (Ls : List (List Int)), Lib.lens (Ls.map u8s) = Ls.flatten.length
  | [] => rfl
  | l :: Ls => by
    have h2 := lens_flat Ls
    rw [List.map_cons, List.flatten_cons, List.length_append, ← h2]
    simp [Lib.lens, u8s_length]
theorem fresh_fb {B : Nat} {w : World} {v : Value} {l : List UInt8} (h : Lib.FreshBytes B w v l) (h1 : 0 < l.length) : Fb B w v (Lib.numsL l) := by
  obtain ⟨g, cap, zs, rfl, hB, hl, hm, hz, hr, hb, hc, hf⟩ := h
  have hg := World.block_lt_of_cell? w _ (hc 0 (by omega))
  refine ⟨g, cap, by rw [Lib.numsL_length], hB, hg, by rw [Lib.numsL_length]; exact hl, hm, fun j hj => ?_, fun j hj => ⟨by rw [hc j hj]; rfl, hf j hj⟩⟩
  rw [Lib.numsL_length] at hj
  rw [hc j (by omega), ← hb]
  have e1 : (Lib.numsL (Lib.bytesOf (zs.take l.length))).getD j 0 = zs.getD j 0 := by
    rw [show Lib.numsL (Lib.bytesOf (zs.take l.length)) = zs.take l.length from u8s_nums (fun z hz => by have := hr z (List.mem_of_mem_take hz); omega)]
    simp [List.getD_eq_getElem?_getD, hj]
  rw [e1]

/-- From ⟨b, o⟩ on stand slices of bytes, of which each reads as one of the lists. -/
def PartsOf (w : World) (b o : Nat) (vs : List Value) (Ls : List (List Int)) : Prop :=
  vs.length = Ls.length ∧ (∀ (i : Nat) (v : Value), vs[i]? = some v → w.cell? ⟨b, o + i, none⟩ = some v) ∧ ∀ (i : Nat) (v : Value) (l : List Int), vs[i]? = some v → Ls[i]? = some l → (∃ A c B, v = .slice A l.length c ∧ Ns .u8 w B A l) ∧ ∀ z ∈ l, 0 ≤ z ∧ z ≤ 255
theorem bjoin_any (b o n c : Nat) (vs : List Value) (Ls : List (List Int)) (w : World) (hn : Ls.length = n) (h2 : 2 ≤ n) (hn2 : n ≤ 16) (hp : PartsOf w b o vs Ls) (hcap : n ≤ c) (hlen : Ls.flatten.length ≤ 140737488355328) (h1 : 0 < Ls.flatten.length) (c' : Nat) :
    Calls Try.prog 20 #[.slice (some ⟨b, o, none⟩) n c, .slice none 0 c'] w fun e w' => ∃ v, e = .returned v ∧ Fb w.heap.size w' v Ls.flatten ∧ Below w.heap.size w w' := by
  have hby : ∀ l ∈ Ls, ∀ z ∈ l, 0 ≤ z ∧ z ≤ 255 := by
    intro l hl
    obtain ⟨i, hi, rfl⟩ := List.mem_iff_getElem.1 hl
    have hv : i < vs.length := by rw [hp.1]; exact hi
    exact (hp.2.2 i vs[i] Ls[i] (List.getElem?_eq_getElem hv) (List.getElem?_eq_getElem hi)).2
  have hP : Lib.PartsAt w ⟨b, o, none⟩ vs (Ls.map u8s) := by
    refine ⟨by rw [List.length_map]; exact hp.1, fun i v hv => by rw [Addr.add_lit]; exact hp.2.1 i v hv, fun i v l hv hl => ?_⟩
    rw [List.getElem?_map] at hl
    obtain ⟨m, hm, rfl⟩ := Option.map_eq_some_iff.1 hl
    obtain ⟨⟨A, c, B, rfl, hN⟩, hb⟩ := hp.2.2 i v m hv hm
    exact holds_ns hN hb c
  have h := Go.Proofs.Any.bytes_Join_many Try.joinBytes b o n c vs (Ls.map u8s) (Value.slice none 0 c') [] w (by rw [List.length_map]; exact hn) h2 hP hcap ⟨none, c', rfl, fun _ => rfl, fun a ha => by cases ha⟩ (by omega) (by rw [lens_flat]; simpa using hlen)
  refine h.mono ?_
  rintro e w' ⟨v, rfl, hf, hb⟩
  rw [join_flat] at hf
  have hl : (Ls.map u8s).flatten.length = Ls.flatten.length := by rw [← lens_flat]; simp [Lib.lens, List.length_flatten]
  have hF := fresh_fb hf (by rw [hl]; exact h1)
  rw [nums_flat Ls hby] at hF
  exact ⟨v, rfl, hF, hb⟩
end Seal
end Go.Proofs.Ytjifklojbbocfaa
