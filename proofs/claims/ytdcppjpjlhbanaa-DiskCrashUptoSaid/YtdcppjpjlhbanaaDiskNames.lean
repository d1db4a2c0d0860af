/-
  disk: Names: the files' names, rising (layer 7).
-/
import Derived.Test.YtdcppjpjlhbanaaDiskMisc
import Derived.Test.YtdcppjpjlhbanaaShelf
import Derived.Sort.KeysCollected
import Derived.Sort.OwnSorted
namespace Go.Proofs.Ytdcppjpjlhbanaa
namespace Disk
open Go.RowKit Blk Go.Maps Go.Sort
attribute [local go_sem ↓] Go.wp_at_zero Go.wp_at_succ
section
variable {F : Nat → Prop} {own : Nat → Nat} {w : World} {db N : Nat} {room : Int} {es : Es} {r : List Un}
theorem info_str : (Try.prog.info? 9).map (fun i => (i.zero, i.size, i.bytes)) = some (some (.string ⟨#[]⟩), 1, 16) := by kernel_rfl
/-- A name as the list of its bytes. -/
def lst (s : Nm) : List UInt8 := s.data.toList
theorem lst_toList (s : Nm) : lst s = s.toList := (Lib.toList_data s).symm
theorem lst_inj {s t : Nm} (h : lst s = lst t) : s = t := nm_ext (by rw [← lst_toList, ← lst_toList, h])
theorem enc_lst (s : Nm) : encStr (lst s) = .string s := by simp [encStr, lst]
theorem lst_of (x : List UInt8) : lst ⟨x.toArray⟩ = x := by simp [lst]
theorem find_isSome {β : Type} (l : List (Nm × β)) (s : Nm) : (find l s).isSome = true ↔ ∃ x ∈ l, x.1 = s := by
  constructor
  · intro h
    obtain ⟨b, hb⟩ := Option.isSome_iff_exists.1 h
    exact ⟨_, find_some hb, rfl⟩
  · rintro ⟨x, hx, rfl⟩
    cases hf : find l x.1 with
    | none => exact absurd rfl (find_none.1 hf x hx)
    | some _ => rfl
/-- What was collected, sorted, is the files' names as they stand. -/
theorem names_sorted {D : DataW Value} {l : Vl} (hm : MapV D l) (hs : Srt l) (hok : ∀ x ∈ l, okN x.1) {left : Lit → Bool} {ss : List (List UInt8)} (hC : Collected D left ss) (hl : ∀ kl, left kl = false) (hle : ∀ x ∈ ss, x.length ≤ maxLen) : ss.mergeSort (fun x y => decide (x ≤ y)) = l.map fun x => lst x.1 := by
  have tr : ∀ a b c : List UInt8, leB a b = true → leB b c = true → leB a c = true := fun a b c h1 h2 => by simp only [leB, decide_eq_true_eq] at *; exact List.le_trans h1 h2
  have to : ∀ a b : List UInt8, (leB a b || leB b a) = true := fun a b => by simp only [leB, Bool.or_eq_true, decide_eq_true_eq]; exact List.le_total a b
  have hmem : ∀ x, x.length ≤ maxLen → (x ∈ ss ↔ x ∈ l.map fun x => lst x.1) := fun x hx => by
    have hk : keyOf Try.prog 9 (.string ⟨x.toArray⟩) = some (.string x) := by
      have := WideMaps.keyOf_string_mk (P := Try.prog) Try.underlying9 (s := ⟨x.toArray⟩) (show x.toArray.size ≤ maxLen by rw [List.size_toArray]; exact hx)
      rw [this]
    rw [hC.2 x, hl, hm.has hk, find_isSome, List.mem_map]
    constructor
    · rintro ⟨⟨y, hy, e⟩, _⟩
      exact ⟨y, hy, by rw [e, lst_of]⟩
    · rintro ⟨y, hy, e⟩
      exact ⟨⟨y, hy, lst_inj (by rw [e, lst_of])⟩, rfl⟩
  have hpw : (l.map fun x => lst x.1).Pairwise fun a b => leB a b = true := by
    rw [List.pairwise_map]
    refine hs.imp fun {a b} h => ?_
    have := nlt_iff.1 h
    simp only [leB, decide_eq_true_eq, lst_toList]
    exact List.le_of_lt this
  have hnd : (l.map fun x => lst x.1).Nodup := by
    unfold List.Nodup
    rw [List.pairwise_map]
    exact hs.imp fun {a b} h e => nlt_ne h (lst_inj e)
  have hp : ss.Perm (l.map fun x => lst x.1) := (List.perm_ext_iff_of_nodup hC.1 hnd).2 fun x => by
    by_cases hx : x.length ≤ maxLen
    · exact hmem x hx
    · constructor
      · exact fun h => absurd (hle x h) hx
      · intro h
        obtain ⟨y, hy, rfl⟩ := List.mem_map.1 h
        exact absurd (show y.1.data.toList.length ≤ maxLen by rw [Array.length_toList]; exact hok y hy) hx
  refine List.Perm.eq_of_pairwise (le := fun a b => leB a b = true) (fun a b _ _ h1 h2 => ?_) (List.pairwise_mergeSort tr to ss) hpw ((List.mergeSort_perm ss leB).trans hp)
  simp only [leB, decide_eq_true_eq] at h1 h2
  exact List.le_antisymm h1 h2
set_option maxRecDepth 100000 in
set_option maxHeartbeats 2000000 in
theorem names_any (h : DK F own N w db room es r) (hN : N ≤ 8000000000000) :
    Calls Try.prog 24 #[hd db] w (fun e w' => ∃ g cap n, e = .returned (.slice (some ⟨g, 0, none⟩) n cap) ∧ Hid (n = es.length ∧ w'.ownsRow w.heap.size 9 1 (.slice (some ⟨g, 0, none⟩) n cap) n (es.map fun x => .string x.1) ∧ Below w.heap.size w w')) := by
  obtain ⟨i0, hi, hz0, hz1, hz2⟩ := info_parts info_str
  obtain ⟨mb, A, n', c, hp⟩ := h.parts
  have hlen := hp.len
  have hbl := hp.1.2.lt
  obtain ⟨D0, n, hown, hm, hsr, hok, hsz⟩ := hp.1.2
  have hszl : Maps.size D0 ≤ N := by rw [hsz, mapV, List.length_map]; exact hlen
  have c2 := (hp.1.1.cell 2).trans rfl
  have HB := Lib.hid hp.1.1
  have HM := Lib.hid (And.intro hm (And.intro hsr hok))
  have HL : Hid (Maps.size D0 = es.length) := Lib.hid (by rw [hsz, mapV, List.length_map])
  have HD : Hid (db < w.heap.size) := Lib.hid hp.1.1.lt
  clear h hp hm hsr hok hsz
  go_enter Try.func24, Try.ntmps24
  go_wp2_with (first
    | (at_len; refine wpList_len_own _ rfl _ 57 rfl 9 29 Try.underlying57 _ mb n _ rfl hown ?_)
    | (at_make; refine wpList_make_own _ rfl _ _ 52 rfl w.heap.size 9 i0 (.string ⟨#[]⟩) 1 Try.underlying52 hi hz0 hz1 _ _ _ (Maps.size D0) rfl rfl rfl (by rw [hz2]; omega) (by unfold maxLen; omega) (Nat.le_refl _) ?_; intro w1 hrow1 hg1; have c2' := ((HB.out.kept hg1 (by simp)).cell 2).trans rfl)
    | (at_range; refine wpList_range_own _ rfl _ 57 rfl 9 29 keyed Try.underlying57 _ mb n _ rfl (hown.kept hg1 (by simp)) ?_; intro w0 hrg0 hg0 hs0)
    | fail)
  go_frame
  clear c2 c2'
  go_loopw [3] (fun v wr => ∃ (left : Lit → Bool) (cnt : Nat) (ss : List (List UInt8)), wr.ranges Try.prog 9 heldE mb w1.heap.size n D0 left cnt ∧ ss.length + cnt ≤ Maps.size D0 ∧
      wr.ownsRow w.heap.size 9 1 v ss.length (ss.map encStr) ∧ v ≠ .slice none 0 0 ∧ Hid (Collected D0 left ss ∧ ∀ x ∈ ss, x.length ≤ maxLen) ∧ Below w.heap.size w wr)
    (fun _ wr => wr.rangeLeft mb w1.heap.size)
  case atStart =>
    exact ⟨_, _, [], hrg0, by simp, hrow1.kept hg0 (Or.inr (by simp [Value.ownBlock])), by simp, Lib.hid ⟨Collected.start D0, by simp⟩,
      ((Below.refl _ _).grown hg1 (Nat.le_refl _) (fun j hj => by cases hj)).grown hg0 hg1.size (fun j hj => by cases hj)⟩
  case round =>
    obtain ⟨left, cnt, ss, hrg, hcs, hrow, hnn, hC, hnx⟩ := hrel
    go_wp2_with (first
      | (at_next; refine wpList_next_ranges _ rfl _ rfl 9 keyed heldE encStr (fun v : Value => v) (fun key kl hk => by obtain ⟨x, hx, _⟩ := Maps.keyOf_str Try.underlying9 hk; exact ⟨x, hx⟩) (fun v y hv => ⟨v, rfl⟩) mb w1.heap.size n _ _ _ rfl hrg ?_ ?_)
      | fail)
    · -- nothing is left
      intro hc0 hl0
      rcases hrow.2 with ⟨hnil, _⟩ | ⟨g, cap, cur, rfl, hbase, hb, h1, h2, h3, h4⟩
      · exact absurd hnil hnn
      have hH : Holds encStr wr g 0 ss.toArray := holds_of_block hb (by simpa using h4)
      have hgl : g < wr.heap.size := (Array.getElem?_eq_some_iff.1 hb).1
      have hc : Calls Try.prog 42 #[.slice (some ⟨g, 0, none⟩) ss.length cap] wr _ := AnyM.slices_Sort_string Try.sortStr g 0 cap ss wr hH hgl (by omega)
      have hE : Hid (∀ nn os, (ss.length = es.length ∧ (grow (putRow encStr (Sort.ahead wr nn) g 0 (ss.mergeSort fun x y => decide (x ≤ y)).toArray) os).ownsRow w.heap.size 9 1 (.slice (some ⟨g, 0, none⟩) ss.length cap) ss.length (es.map fun x => .string x.1) ∧ Below w.heap.size w (grow (putRow encStr (Sort.ahead wr nn) g 0 (ss.mergeSort fun x y => decide (x ≤ y)).toArray) os))) := Lib.hid fun nn os => by
        have hst := names_sorted HM.out.1 HM.out.2.1 HM.out.2.2 hC.out.1 hl0 hC.out.2
        have hl : ss.length = es.length := by
          have := congrArg List.length hst
          simpa [mapV] using this
        refine ⟨hl, ?_, hnx.grown (grownBy_sorted _) hnx.size (fun j hj => by cases hj; exact hbase)⟩
        have := ownsRow_sorted (n := nn) (os := os) (ts := ss.mergeSort fun x y => decide (x ≤ y)) (by simp) hbase hb h1 h2 h3
        have e2 : (es.map fun x => Value.string x.1) = (ss.mergeSort fun x y => decide (x ≤ y)).map encStr := by
          rw [hst, mapV, List.map_map, List.map_map]
          exact List.map_congr_left fun x _ => (enc_lst x.1).symm
        rw [e2]
        exact this
      obtain ⟨k, hk⟩ : ∃ k, ss.length = k := ⟨_, rfl⟩
      rw [hk] at hc hE ⊢
      have HC := Lib.hid hc
      clear hc hrow hH hgl hb h1 h2 h3 h4 hrg hcs hC hnx hk hnn
      go_wp2_with (go_at_call 42; refine HC.out.mono ?_; rintro e w' ⟨rfl, nn, os, rfl⟩)
      go_ret
      exact ⟨g, cap, k, rfl, Lib.hid (hE.out nn os)⟩
    · -- an entry has come
      intro x c kl yd yp w2 cnt2 hkey hlk hv hat hrg2 hlt hg2 hs2 hen
      obtain ⟨x', ex, rfl, hxl⟩ := Maps.keyOf_str Try.underlying9 hkey
      obtain rfl : x = x' := encStr_inj ex
      have hrow2 := hrow.kept hg2 (Or.inr (row_ne_iter hrow hrg).symm)
      clear hs2
      go_wp2_with (first
        | (at_builtin; refine wpList_append_own _ rfl _ _ 52 rfl w.heap.size 9 i0 (.string ⟨#[]⟩) 1 16 Try.underlying52 hi hz0 hz1 hz2 rfl (by decide) _ _ _ rfl (hrow2.alloc _) ⟨w2.heap.size, 0, none⟩ 1 1 [encStr x] rfl rfl (cell_one_new _ _ _) (by simp [Value.oneCell', encStr]) (by unfold maxLen at *; omega) (by omega) (by have := hnx.size; have := hg2.size; simp; omega) ?_; intro v' w3 hown' hg3 hnil3; go_frame)
        | fail)
      have hrg3 := (hrg2.alloc _).kept hg3 (row_ne_low hrow2 hbl) (row_ne_iter hrow2 hrg2)
      go_roundw
      case rel =>
        refine ⟨_, cnt2, ss ++ [x], hrg3, by simp; omega, by simpa using hown', fun hv' => by have := (hnil3.1 hv').2; omega, Lib.hid ⟨hC.out.1.step hlk hat, fun z hz => ?_⟩, ?_⟩
        · rcases List.mem_append.1 hz with hz | hz
          · exact hC.out.2 z hz
          · simp at hz; subst hz; exact hxl
        · exact ((hnx.grown hg2 hnx.size (fun j hj => by cases hj; exact hg1.size)).alloc (by have := hnx.size; have := hg2.size; omega) _).grown hg3 (by have := hnx.size; have := hg2.size; simp; omega) (fun j hj => (hrow2.lt j hj).1)
      case measure => rw [hrg3.left_eq, hrg.left_eq]; exact hlt
end
end Disk
end Go.Proofs.Ytdcppjpjlhbanaa
