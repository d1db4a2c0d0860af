/-
  Several texts of this family in one: CodeMsgPlain, VectReads, Row.
-/
import Derived.Test.YtkfdplfgaddkmaaGreatK3
import Derived.Test.YtkfdplfgaddkmaaGreatK2
/-
 Plain words of layer 6: messages, as they are taken and written.
-/
namespace Go.Proofs.YtkfdplfgaddkmaaGreat
namespace Code
open Num Span Vers

structure Par {α : Type} (zs : List Int) (P : Nat → Option (α × Nat)) (enc : α → List Int) (ok : α → Prop) (gets : α → Prop) : Prop where
 put : ∀ x p, gets x → ok x → Std zs p (enc x) → P p = some (x, p + (enc x).length)
 goes : ∀ x p q, p ≤ zs.length → P p = some (x, q) → p < q ∧ q ≤ zs.length
 got : ∀ x p q, p ≤ zs.length → P p = some (x, q) → gets x
 back : ∀ x p q, p ≤ zs.length → P p = some (x, q) → ok x → Std zs p (enc x) ∧ q = p + (enc x).length
/-! ### The parts -/
theorem listP_all {α : Type} {P : Nat → Option (α × Nat)} {n : Nat} {gets : α → Prop} (hP : ∀ x p q, p ≤ n → P p = some (x, q) → p < q ∧ q ≤ n) (hG : ∀ x p q, p ≤ n → P p = some (x, q) → gets x) : ∀ (k p q : Nat) (l : List α), p ≤ n → listP P k p = some (l, q) → ∀ x ∈ l, gets x
 | 0, p, q, l, hp, h => by
  simp only [listP, Option.some.injEq, Prod.mk.injEq] at h
  obtain ⟨rfl, rfl⟩ := h
  intro x hx
  cases hx
 | k + 1, p, q, l, hp, h => by
  rw [listP] at h
  split at h
  ·cases h
  ·rename_i x r hx
   obtain ⟨y, hy, he⟩ := Option.map_eq_some_iff.1 h
   simp only [Prod.mk.injEq] at he
   obtain ⟨rfl, rfl⟩ := he
   have h1 := hP x p r hp hx
   intro z hz
   rcases List.mem_cons.1 hz with rfl | hz
   ·exact hG _ _ _ hp hx
   ·exact listP_all hP hG k r y.2 y.1 (by omega) hy z hz
section
variable {zs : List Int}
theorem Par.list {α : Type} {P : Nat → Option (α × Nat)} {enc : α → List Int} {ok gets : α → Prop} (h : Par zs P enc ok gets) (hby : ∀ z ∈ zs, 0 ≤ z ∧ z ≤ 255) (hb : zs.length ≤ 4294967296) :
  Par zs (seqP P zs) (seqL enc) (fun l => ∀ x ∈ l, ok x) (fun l => l.length ≤ 9223372036854775807 ∧ ∀ x ∈ l, gets x) where
 put := fun l p hg hk hs => seqP_put (ok := fun x => gets x ∧ ok x) (fun x p hx hs => h.put x p hx.1 hx.2 hs) hg.1 (fun x hx => ⟨hg.2 x hx, hk x hx⟩) hs
 goes := fun l p q hp hx => by
  have := seqP_len hby (fun x p q hp h' => h.goes x p q hp h') hp hx
  omega
 got := fun l p q hp hx => by
  have h1 := seqP_len hby (fun x p q hp h' => h.goes x p q hp h') hp hx
  refine ⟨by omega, ?_⟩
  unfold seqP at hx
  split at hx
  ·cases hx
  ·rename_i n r hn
   obtain ⟨g1, g2, g3, g4⟩ := numP_ok hby hp hn
   have gl := std_le g1
   exact listP_all (fun x p q hp h' => h.goes x p q hp h') (fun x p q hp h' => h.got x p q hp h') _ _ _ _ (by omega) hx
 back := fun l p q hp hx hk => (seqP_ok hby (fun x p q hp h' => ⟨(h.goes x p q hp h').2, h.back x p q hp h'⟩) hp hx).2 hk
end

/-! ### Messages -/
abbrev Ms := Int × (Int × Int) × (Int × Int) × Int × Int × Int × Int × ByteArray × List Rc × List Int × List Int × List Int × List Int
def okA (a : Int × Int) : Prop := (1 ≤ a.1 ∧ a.1 ≤ 16) ∧ (0 ≤ a.2 ∧ a.2 ≤ 8)
def okM : Ms → Prop
 | (kind, fr, to_, id, n, for_, code, key, recs, vec, path, hashes, route) =>
  (1 ≤ kind ∧ kind ≤ 17) ∧ okA fr ∧ okA to_ ∧ 0 ≤ id ∧ 0 ≤ n ∧ (0 ≤ for_ ∧ for_ ≤ 8) ∧ (0 ≤ code ∧ code ≤ 999) ∧ key.size ≤ 32 ∧ (∀ x ∈ recs, okR x) ∧
  (vec.length ≤ 16 ∧ ∀ x ∈ vec, 0 ≤ x ∧ x ≤ 4611686018427387904) ∧ (path.length ≤ 2 ∧ ∀ x ∈ path, 0 ≤ x ∧ x < 16) ∧ hashes.length ≤ 16 ∧ (route.length ≤ 16 ∧ ∀ x ∈ route, 1 ≤ x ∧ x ≤ 16)
end Code
end Go.Proofs.YtkfdplfgaddkmaaGreat

/-
 Vectors: which are right, and the functions that only read them.
-/
namespace Go.Proofs.YtkfdplfgaddkmaaGreat
namespace Vect
open Go.RowKit Span
attribute [local go_sem ↓] Go.wp_at_zero Go.wp_at_succ

def RightV (v : List Int) : Prop := 1 ≤ v.length ∧ v.length ≤ 16 ∧ ∀ z ∈ v, 0 ≤ z ∧ z ≤ 4611686018427387904
instance (v : List Int) : Decidable (RightV v) := by unfold RightV; infer_instance
def CoversV (v : List Int) (s n : Int) : Prop := 0 < n ∧ 1 ≤ s ∧ s ≤ v.length ∧ n ≤ v.getD (s - 1).toNat 0
instance (v : List Int) (s n : Int) : Decidable (CoversV v s n) := by unfold CoversV; infer_instance

theorem ns_cell {w w' : World} {B : Nat} {A : Option Addr} {l : List Int} {n : Nat} (h : Ns .i64 w B A l) (hn : l.length = n) (hb : Below B w w') {k : Nat} (hk : k < n) {x : Int} (hx : l.getD k 0 = x) :
  ∃ b off, A = some ⟨b, off, none⟩ ∧ b < B ∧ w'.cell? ⟨b, off + k, none⟩ = some (.int .i64 x) := by
 subst hn
 subst hx
 obtain ⟨b, off, e, hbB, hc⟩ := h (by omega)
 exact ⟨b, off, e, hbB, (hb.cell (by exact hbB)).trans (hc k hk)⟩
theorem vtake_one {l : List Int} {i : Nat} {y : Int} (hi : i < l.length) (hy : l.getD i 0 = y) : l.take (i + 1) = l.take i ++ [y] := by
 rw [List.take_succ_eq_append_getElem hi]
 rw [List.getD_eq_getElem?_getD, List.getElem?_eq_getElem hi, Option.getD_some] at hy
 rw [hy]
theorem vget_mem {l : List Int} {i : Nat} {y : Int} (hi : i < l.length) (hy : l.getD i 0 = y) : y ∈ l := by
 rw [List.getD_eq_getElem?_getD, List.getElem?_eq_getElem hi, Option.getD_some] at hy
 exact hy ▸ List.getElem_mem hi

set_option maxRecDepth 100000 in
set_option maxHeartbeats 1000000 in
theorem right_v (A : Option Addr) (c n : Nat) (v : List Int) (hn : v.length = n) (w : World) (hr : Ns .i64 w w.heap.size A v) (hbig : n ≤ 140737488355328) :
  Calls Tryz.prog 44 #[.slice A n c] w fun e w' => e = .returned (.bool (decide (RightV v))) ∧ Below w.heap.size w w' := by
 obtain ⟨Q, hQ⟩ : ∃ Q, decide (RightV v) = Q := ⟨_, rfl⟩
 rw [hQ]
 by_cases h0 : n = 0
 ·have HZ := Lib.hid (hQ.symm.trans (decide_eq_false fun h => by have := h.1; omega))
  subst h0
  clear hr hn hQ
  go_enter Tryz.func44, Tryz.ntmps44
  go_wp2
  go_ret
  exact ⟨by rw [HZ.out]; rfl, Below.refl _ _⟩
 ·by_cases h16 : 16 < n
  ·have HZ := Lib.hid (hQ.symm.trans (decide_eq_false fun h => by have := h.2.1; omega))
   clear hr hn hQ
   go_enter Tryz.func44, Tryz.ntmps44
   go_wp2
   go_ret
   exact ⟨by rw [HZ.out]; rfl, Below.refl _ _⟩
  ·have h0' : ((n : Int) == 0) = false := by simp; omega
   have HN := Lib.hid hn
   have HR := Lib.hid hr
   have HQ := Lib.hid hQ
   clear hn hr hQ
   go_enter Tryz.func44, Tryz.ntmps44
   go_wp2
   go_loopw [15] (fun q wr => ∃ k : Nat, k ≤ n ∧ q = .int .i64 k ∧ Hid (Below w.heap.size w wr) ∧ Hid (∀ z ∈ v.take k, 0 ≤ z ∧ z ≤ 4611686018427387904)) (fun q _ => n - (intOf q).toNat)
   case atStart => exact ⟨0, by omega, rfl, Lib.hid (Below.refl _ _), Lib.hid (by simp)⟩
   case round =>
    obtain ⟨k, hk, rfl, hb, hst⟩ := hrel
    by_cases hlt : k < n
    ·obtain ⟨x, hx⟩ : ∃ x, v.getD k 0 = x := ⟨_, rfl⟩
     obtain ⟨b, off, rfl, hbB, d0⟩ := ns_cell HR.out HN.out hb.out hlt hx
     have hl : k < v.length := by rw [HN.out]; exact hlt
     by_cases hx0 : x < 0
     ·have HZ := Lib.hid (HQ.out.symm.trans (decide_eq_false fun h => by have := h.2.2 x (vget_mem hl hx); omega))
      clear hst hx hl HQ HR HN
      go_wp2
      go_ret
      exact ⟨by rw [HZ.out]; rfl, hb.out⟩
     ·by_cases hx1 : 4611686018427387904 < x
      ·have HZ := Lib.hid (HQ.out.symm.trans (decide_eq_false fun h => by have := h.2.2 x (vget_mem hl hx); omega))
       clear hst hx hl HQ HR HN
       go_wp2
       go_ret
       exact ⟨by rw [HZ.out]; rfl, hb.out⟩
      ·have HZ : Hid (∀ z ∈ v.take (k + 1), 0 ≤ z ∧ z ≤ 4611686018427387904) := Lib.hid (by
        rw [vtake_one hl hx]
        intro z hz
        rcases List.mem_append.1 hz with hz | hz
        ·exact hst.out z hz
        ·rw [List.mem_singleton.1 hz]; omega)
       clear hst hx hl HQ HR HN
       go_wp2
       exact ⟨⟨k + 1, by omega, rfl, hb, HZ⟩, by simp only [intOf]; omega⟩
    ·have HZ := Lib.hid (HQ.out.symm.trans (decide_eq_true ⟨by rw [HN.out]; omega, by rw [HN.out]; omega, by have := hst.out; rwa [List.take_of_length_le (by rw [HN.out]; omega)] at this⟩))
     clear hst HQ HR HN
     go_wp2
     go_ret
     exact ⟨by rw [HZ.out]; rfl, hb.out⟩

set_option maxRecDepth 100000 in
set_option maxHeartbeats 1000000 in
theorem ref_right_v (A : Option Addr) (c n : Nat) (v : List Int) (hn : v.length = n) (w : World) (hr : Ns .i64 w w.heap.size A v) (hbig : n ≤ 140737488355328) :
  Calls Tryz.prog 47 #[.slice A n c] w fun e w' => e = .returned (.bool (decide (RightV v))) ∧ Below w.heap.size w w' := by
 obtain ⟨Q, hQ⟩ : ∃ Q, decide (RightV v) = Q := ⟨_, rfl⟩
 rw [hQ]
 by_cases h0 : n = 0
 ·have HZ := Lib.hid (hQ.symm.trans (decide_eq_false fun h => by have := h.1; omega))
  subst h0
  clear hr hn hQ
  go_enter Tryz.func47, Tryz.ntmps47
  go_wp2
  go_ret
  exact ⟨by rw [HZ.out]; rfl, Below.refl _ _⟩
 ·by_cases h16 : 16 < n
  ·have HZ := Lib.hid (hQ.symm.trans (decide_eq_false fun h => by have := h.2.1; omega))
   clear hr hn hQ
   go_enter Tryz.func47, Tryz.ntmps47
   go_wp2
   go_ret
   exact ⟨by rw [HZ.out]; rfl, Below.refl _ _⟩
  ·have h0' : ((n : Int) == 0) = false := by simp; omega
   have HN := Lib.hid hn
   have HR := Lib.hid hr
   have HQ := Lib.hid hQ
   clear hn hr hQ
   go_enter Tryz.func47, Tryz.ntmps47
   go_wp2
   go_loopw [3] (fun q wr => ∃ k : Nat, k ≤ n ∧ q = .int .i64 k ∧ Hid (Below w.heap.size w wr) ∧ Hid (∀ z ∈ v.take k, 0 ≤ z ∧ z ≤ 4611686018427387904)) (fun q _ => n - (intOf q).toNat)
   case atStart => exact ⟨0, by omega, rfl, Lib.hid (Below.refl _ _), Lib.hid (by simp)⟩
   case round =>
    obtain ⟨k, hk, rfl, hb, hst⟩ := hrel
    by_cases hlt : k < n
    ·obtain ⟨x, hx⟩ : ∃ x, v.getD k 0 = x := ⟨_, rfl⟩
     obtain ⟨b, off, rfl, hbB, d0⟩ := ns_cell HR.out HN.out hb.out hlt hx
     have hl : k < v.length := by rw [HN.out]; exact hlt
     by_cases hx0 : x < 0
     ·have HZ := Lib.hid (HQ.out.symm.trans (decide_eq_false fun h => by have := h.2.2 x (vget_mem hl hx); omega))
      clear hst hx hl HQ HR HN
      go_wp2
      go_ret
      exact ⟨by rw [HZ.out]; rfl, hb.out⟩
     ·by_cases hx1 : 4611686018427387904 < x
      ·have HZ := Lib.hid (HQ.out.symm.trans (decide_eq_false fun h => by have := h.2.2 x (vget_mem hl hx); omega))
       clear hst hx hl HQ HR HN
       go_wp2
       go_ret
       exact ⟨by rw [HZ.out]; rfl, hb.out⟩
      ·have HZ : Hid (∀ z ∈ v.take (k + 1), 0 ≤ z ∧ z ≤ 4611686018427387904) := Lib.hid (by
        rw [vtake_one hl hx]
        intro z hz
        rcases List.mem_append.1 hz with hz | hz
        ·exact hst.out z hz
        ·rw [List.mem_singleton.1 hz]; omega)
       clear hst hx hl HQ HR HN
       go_wp2
       exact ⟨⟨k + 1, by omega, rfl, hb, HZ⟩, by simp only [intOf]; omega⟩
    ·have HZ := Lib.hid (HQ.out.symm.trans (decide_eq_true ⟨by rw [HN.out]; omega, by rw [HN.out]; omega, by have := hst.out; rwa [List.take_of_length_le (by rw [HN.out]; omega)] at this⟩))
     clear hst HQ HR HN
     go_wp2
     go_ret
     exact ⟨by rw [HZ.out]; rfl, hb.out⟩

end Vect
end Go.Proofs.YtkfdplfgaddkmaaGreat

/-
 A row of bytes of the call's own, written at will: it stays a row of bytes.
-/
namespace Go.Proofs.YtkfdplfgaddkmaaGreat
open Go.RowKit

def Rw (k : IntKind) (w : World) (g n : Nat) : Prop := ∃ cur e, w.heap[g]? = some (.cells cur e (0, 0)) ∧ ∀ j, j < n → ∃ z, cur[j]? = some (.int k z)
theorem Rw.cell {k : IntKind} {w : World} {g n : Nat} (h : Rw k w g n) (j : Nat) (hj : j < n) : ∃ z, w.cell? ⟨g, j, none⟩ = some (.int k z) := by
 obtain ⟨cur, e, h1, h2⟩ := h
 obtain ⟨z, hz⟩ := h2 j hj
 exact ⟨z, by rw [cell_of_row w g j cur e (0, 0) h1]; exact hz⟩
theorem Rw.frozen {k : IntKind} {w : World} {g n : Nat} (h : Rw k w g n) (j : Nat) : w.frozen? ⟨g, j, none⟩ = false := by
 obtain ⟨cur, e, h1, _⟩ := h
 simp [World.frozen?, h1]
theorem Rw.set {k : IntKind} {w : World} {g n : Nat} (h : Rw k w g n) (i : Nat) (x : Int) : Rw k (w.setCell ⟨g, i, none⟩ (.int k x)) g n := by
 obtain ⟨cur, e, h1, h2⟩ := h
 refine ⟨cur.setIfInBounds i (.int k x), e, ?_, fun j hj => ?_⟩
 ·simp [World.setCell, Array.getElem?_modify, h1]
 ·obtain ⟨z, hz⟩ := h2 j hj
  by_cases hij : i = j
  ·subst hij
   exact ⟨x, by rw [Array.getElem?_setIfInBounds_self_of_lt (Array.getElem?_eq_some_iff.1 hz).1]⟩
  ·exact ⟨z, by rw [Array.getElem?_setIfInBounds_ne hij]; exact hz⟩
theorem Rw.keep {k : IntKind} {w w' : World} {g n : Nat} (h : Rw k w g n) (hk : w'.heap[g]? = w.heap[g]?) : Rw k w' g n := by
 obtain ⟨cur, e, h1, h2⟩ := h
 exact ⟨cur, e, hk.trans h1, h2⟩
theorem Ns.other {k : IntKind} {w w' : World} {B b off : Nat} {zs : List Int} (h : Ns k w B (some ⟨b, off, none⟩) zs) (hk : w'.heap[b]? = w.heap[b]?) : Ns k w' B (some ⟨b, off, none⟩) zs := fun hp => by
 obtain ⟨b', off', e, hb, hc⟩ := h hp
 injection e with e
 injection e with e1 e2
 subst e1
 subst e2
 exact ⟨b, off, rfl, hb, fun j hj => (World.cell?_of_block (w := w) (w' := w') (a := ⟨b, off + j, none⟩) hk).trans (hc j hj)⟩
end Go.Proofs.YtkfdplfgaddkmaaGreat
