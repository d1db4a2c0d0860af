/-
  A step on by a dot: vect.Bump and firthref04.Bump.
-/
import Derived.Test.YtpgpeigaoonpcacVectJoinRef
namespace Go.Proofs.Ytpgpeigaoonpcac
namespace Vect
open Go.RowKit Span
attribute [local go_sem ↓] Go.wp_at_zero Go.wp_at_succ

/-- Is it the next dot of its site? -/
def IsNext (v : List Int) (s n : Int) : Prop := nextV v s = (s, n, 0)
instance (v : List Int) (s n : Int) : Decidable (IsNext v s n) := by unfold IsNext; infer_instance
def bumpE (v : List Int) (s n : Int) : Int := if IsNext v s n then 0 else 1
def bumpL (v : List Int) (s n : Int) : List Int := if IsNext v s n then v.set (s - 1).toNat n else []
theorem bump_no {v : List Int} {s n : Int} (h : ¬ IsNext v s n) : bumpE v s n = 1 ∧ bumpL v s n = [] := ⟨if_neg h, if_neg h⟩
theorem bump_yes {v : List Int} {s n : Int} (h : IsNext v s n) : bumpE v s n = 0 ∧ bumpL v s n = v.set (s - 1).toNat n := ⟨if_pos h, if_pos h⟩
theorem bumpL_len (v : List Int) (s n : Int) : (bumpL v s n).length ≤ v.length := by
  unfold bumpL
  split
  · simp
  · simp
theorem own_addr {w : World} {base : Nat} {e : TypeId} {size : Nat} {A : Option Addr} {n c : Nat} {xs : List Value} (h : w.ownsRow base e size (.slice A n c) n xs) (hp : 0 < n) : ∃ g, A = some ⟨g, 0, none⟩ ∧ base ≤ g := by
  rcases h.2 with ⟨_, h0⟩ | ⟨g, cap, cur, hv, hbg, _⟩
  · omega
  · injection hv with h1 _ _
    exact ⟨g, h1, hbg⟩
/-- What a site's next dot tells of the vector. -/
theorem next_zero {v : List Int} {s a b : Int} (h : nextV v s = (a, b, 0)) : RightV v ∧ 1 ≤ s ∧ s ≤ v.length ∧ a = s ∧ b = v.getD (s - 1).toNat 0 + 1 ∧ ¬ v.getD (s - 1).toNat 0 = 4611686018427387904 := by
  unfold nextV at h
  split at h
  case isTrue hR =>
    split at h
    case isTrue => simp at h
    case isFalse hm =>
      simp only [Prod.mk.injEq] at h
      exact ⟨hR.1, hR.2.1, hR.2.2, h.1.symm, h.2.1.symm, hm⟩
  case isFalse => simp at h
theorem next_fst {v : List Int} {s a b e : Int} (h : nextV v s = (a, b, e)) (he : e = 0) : a = s := by
  subst he
  exact (next_zero h).2.2.2.1

set_option maxHeartbeats 2000000 in
set_option maxRecDepth 100000 in
theorem bump_any (A : Option Addr) (c m : Nat) (v : List Int) (hm : v.length = m) (s n : Int) (hs : -9223372036854775808 ≤ s ∧ s ≤ 9223372036854775807) (w : World) (hr : Ns .i64 w w.heap.size A v) (hbig : m ≤ 140737488355328) :
    Calls Try.prog 20 #[.slice A m c, .agg #[.int .i64 s, .int .i64 n]] w (VJPost (bumpL v s n) (bumpE v s n) w) := by
  have h1 := fun W hW => next_any A c m v hm s hs W hW hbig
  obtain ⟨⟨d1, d2, E⟩, hQ⟩ : ∃ Q, nextV v s = Q := ⟨_, rfl⟩
  rw [hQ] at h1
  obtain ⟨L, hL⟩ : ∃ L, bumpL v s n = L := ⟨_, rfl⟩
  obtain ⟨F, hF⟩ : ∃ F, bumpE v s n = F := ⟨_, rfl⟩
  rw [hL, hF]
  have hb1 := (Below.refl w.heap.size w).alloc (Nat.le_refl _) (.cells #[.int .i64 s, .int .i64 n] 24)
  have q0 : (w.alloc (.cells #[.int .i64 s, .int .i64 n] 24)).cell? ⟨w.heap.size, 0, none⟩ = some (.int .i64 s) := by simp
  have q1 : (w.alloc (.cells #[.int .i64 s, .int .i64 n] 24)).cell? ⟨w.heap.size, 1, none⟩ = some (.int .i64 n) := by simp
  have sA : (w.alloc (.cells #[.int .i64 s, .int .i64 n] 24)).heap.size = w.heap.size + 1 := by simp
  obtain ⟨W, hW⟩ : ∃ W, w.alloc (.cells #[.int .i64 s, .int .i64 n] 24) = W := ⟨_, rfl⟩
  rw [hW] at hb1 q0 q1 sA
  have hlw : w.heap.size < W.heap.size := by omega
  have H1 := Lib.hid (h1 W ((hr.below hb1).more hb1.size))
  have HR := Lib.hid hr
  have HM := Lib.hid hm
  by_cases he : E = 0
  · have hd1 := next_fst hQ he
    by_cases hd2 : d2 = n
    · subst he
      have hz := next_zero hQ
      subst hd1
      subst hd2
      have hb := bump_yes (v := v) (s := d1) (n := d2) hQ
      have HW := Lib.hid (And.intro (hL.symm.trans hb.2) (hF.symm.trans hb.1))
      obtain ⟨hR, h1s, h2s, _, hx, _⟩ := hz
      have hm16 : m ≤ 16 := by rw [← hm]; exact hR.2.1
      obtain ⟨k, rfl⟩ : ∃ k : Nat, d1 = (k : Int) + 1 := ⟨(d1 - 1).toNat, by omega⟩
      have hk : k < m := by omega
      have e0 : ((k : Int) + 1 - 1).toNat = k := by omega
      rw [e0] at HW
      obtain ⟨info, hi, hz, hsize, hby⟩ := info_int64
      have HI := Lib.hid (And.intro hi (And.intro hz (And.intro hsize hby)))
      clear h1 hQ hL hF hr hm hb hR h1s h2s hx hi hz hsize hby
      go_enter Try.func20, Try.ntmps20
      go_wp2_with fail
      refine H1.out.mono ?_
      rintro e w1 ⟨rfl, b1⟩
      have p0 := cell_below b1 hlw q0
      have p1 := cell_below b1 hlw q1
      have hb2 := hb1.trans (b1.mono hb1.size)
      have hl1 : w.heap.size < w1.heap.size := Nat.lt_of_lt_of_le hlw b1.size
      have o0 : (w1.alloc (.cells #[.int .i64 ((k : Int) + 1), .int .i64 d2] 24)).cell? ⟨w1.heap.size, 0, none⟩ = some (.int .i64 ((k : Int) + 1)) := by simp
      have o1 : (w1.alloc (.cells #[.int .i64 ((k : Int) + 1), .int .i64 d2] 24)).cell? ⟨w1.heap.size, 1, none⟩ = some (.int .i64 d2) := by simp
      have r0 := (World.cell?_alloc_lt w1 (.cells #[.int .i64 ((k : Int) + 1), .int .i64 d2] 24) ⟨w.heap.size, 0, none⟩ hl1).trans p0
      have r1 := (World.cell?_alloc_lt w1 (.cells #[.int .i64 ((k : Int) + 1), .int .i64 d2] 24) ⟨w.heap.size, 1, none⟩ hl1).trans p1
      have hb3 := hb2.alloc hb2.size (.cells #[.int .i64 ((k : Int) + 1), .int .i64 d2] 24)
      have s3 : w1.heap.size < (w1.alloc (.cells #[.int .i64 ((k : Int) + 1), .int .i64 d2] 24)).heap.size := by simp
      obtain ⟨W2, hW2⟩ : ∃ W2, w1.alloc (.cells #[.int .i64 ((k : Int) + 1), .int .i64 d2] 24) = W2 := ⟨_, rfl⟩
      rw [hW2] at o0 o1 r0 r1 hb3 s3
      clear b1 p0 p1 hb2
      have HRW := Lib.hid (HR.out.below hb3)
      have hsz := hb3.size
      go_wp2_with (at_builtin; refine wpList_append_ns _ rfl _ _ _ rfl w.heap.size 2 info (.int .i64 0) 8 Try.underlying22 HI.out.1 HI.out.2.1 HI.out.2.2.1 HI.out.2.2.2 rfl (.slice none 0 0) 0 [] rfl (World.ownsRow_nil _ _ _ _) .i64 w.heap.size A m c v HM.out rfl HRW.out (by omega) (by omega) hsz ?_; intro v5 w5 o5 g5 _; obtain ⟨A5, c5, rfl⟩ := own_form o5; rw [Nat.zero_add, List.nil_append] at o5; have y0 := g5.cell r0 (by simp [Value.ownBlock]); have y1 := g5.cell r1 (by simp [Value.ownBlock]); have hb5 := hb3.grown g5 hsz (fun g hg => by cases hg); obtain ⟨g, hA5, hgb⟩ := own_addr o5 (by omega); subst hA5; have hc5 := o5.cellAt k (by omega); rw [show (nums .i64 v)[k]? = some (.int .i64 (v.getD k 0)) by simp [nums, List.getD_eq_getElem?_getD, show k < v.length by rw [HM.out]; exact hk]] at hc5; have hf5 := o5.frozenAt k; have HS := Lib.hid (o5.stored k (.int .i64 d2)).1; have HB5 := Lib.hid (hb5.setCell (p := ⟨g, k, none⟩) hgb (.int .i64 d2)); clear o5 g5 hb5)
      go_ret2
      rw [HW.out.1, HW.out.2]
      have hl : (v.set k d2).length = m := by rw [List.length_set]; exact HM.out
      exact ⟨some ⟨g, 0, none⟩, c5, by rw [hl]; rfl, by rw [hl]; have := HS.out; rwa [show (nums .i64 v).set k (.int .i64 d2) = nums .i64 (v.set k d2) by simp [nums, List.map_set]] at this, HB5.out⟩
    · have hb := bump_no (v := v) (s := s) (n := n) (fun h => hd2 (by have h' : nextV v s = (s, n, 0) := h; rw [hQ] at h'; simp only [Prod.mk.injEq] at h'; exact h'.2.1))
      have HW := Lib.hid (And.intro (hL.symm.trans hb.2) (hF.symm.trans hb.1))
      have g0 : (d2 == n) = false := by simp [hd2]
      subst he
      subst hd1
      clear h1 hQ hL hF hr hm hb hd2
      go_enter Try.func20, Try.ntmps20
      go_wp2_with fail
      refine H1.out.mono ?_
      rintro e w1 ⟨rfl, b1⟩
      have p0 := cell_below b1 hlw q0
      have p1 := cell_below b1 hlw q1
      have hb2 := hb1.trans (b1.mono hb1.size)
      have hl1 : w.heap.size < w1.heap.size := Nat.lt_of_lt_of_le hlw b1.size
      have o0 : (w1.alloc (.cells #[.int .i64 d1, .int .i64 d2] 24)).cell? ⟨w1.heap.size, 0, none⟩ = some (.int .i64 d1) := by simp
      have o1 : (w1.alloc (.cells #[.int .i64 d1, .int .i64 d2] 24)).cell? ⟨w1.heap.size, 1, none⟩ = some (.int .i64 d2) := by simp
      have r0 := (World.cell?_alloc_lt w1 (.cells #[.int .i64 d1, .int .i64 d2] 24) ⟨w.heap.size, 0, none⟩ hl1).trans p0
      have r1 := (World.cell?_alloc_lt w1 (.cells #[.int .i64 d1, .int .i64 d2] 24) ⟨w.heap.size, 1, none⟩ hl1).trans p1
      have hb3 := hb2.alloc hb2.size (.cells #[.int .i64 d1, .int .i64 d2] 24)
      have s3 : w1.heap.size < (w1.alloc (.cells #[.int .i64 d1, .int .i64 d2] 24)).heap.size := by simp
      obtain ⟨W2, hW2⟩ : ∃ W2, w1.alloc (.cells #[.int .i64 d1, .int .i64 d2] 24) = W2 := ⟨_, rfl⟩
      rw [hW2] at o0 o1 r0 r1 hb3 s3
      clear b1 p0 p1 hb2
      go_wp2
      go_ret2
      rw [HW.out.1, HW.out.2]
      exact vj_nil _ _ _ hb3 _ rfl
  · have hb := bump_no (v := v) (s := s) (n := n) (fun h => he (by have h' : nextV v s = (s, n, 0) := h; rw [hQ] at h'; simp only [Prod.mk.injEq] at h'; exact h'.2.2))
    have HW := Lib.hid (And.intro (hL.symm.trans hb.2) (hF.symm.trans hb.1))
    have g0 : (E == 0) = false := by simp [he]
    clear h1 hQ hL hF hr hm hb
    go_enter Try.func20, Try.ntmps20
    go_wp2_with fail
    refine H1.out.mono ?_
    rintro e w1 ⟨rfl, b1⟩
    have p0 := cell_below b1 hlw q0
    have p1 := cell_below b1 hlw q1
    have hb2 := hb1.trans (b1.mono hb1.size)
    have hl1 : w.heap.size < w1.heap.size := Nat.lt_of_lt_of_le hlw b1.size
    have o0 : (w1.alloc (.cells #[.int .i64 d1, .int .i64 d2] 24)).cell? ⟨w1.heap.size, 0, none⟩ = some (.int .i64 d1) := by simp
    have o1 : (w1.alloc (.cells #[.int .i64 d1, .int .i64 d2] 24)).cell? ⟨w1.heap.size, 1, none⟩ = some (.int .i64 d2) := by simp
    have r0 := (World.cell?_alloc_lt w1 (.cells #[.int .i64 d1, .int .i64 d2] 24) ⟨w.heap.size, 0, none⟩ hl1).trans p0
    have r1 := (World.cell?_alloc_lt w1 (.cells #[.int .i64 d1, .int .i64 d2] 24) ⟨w.heap.size, 1, none⟩ hl1).trans p1
    have hb3 := hb2.alloc hb2.size (.cells #[.int .i64 d1, .int .i64 d2] 24)
    have s3 : w1.heap.size < (w1.alloc (.cells #[.int .i64 d1, .int .i64 d2] 24)).heap.size := by simp
    obtain ⟨W2, hW2⟩ : ∃ W2, w1.alloc (.cells #[.int .i64 d1, .int .i64 d2] 24) = W2 := ⟨_, rfl⟩
    rw [hW2] at o0 o1 r0 r1 hb3 s3
    clear b1 p0 p1 hb2
    go_wp2
    go_ret2
    rw [HW.out.1, HW.out.2]
    exact vj_nil _ _ _ hb3 _ rfl

end Vect
end Go.Proofs.Ytpgpeigaoonpcac
