/-
  Several texts of this family in one: QuorumRef, QuorumRefRight, QuorumRefAll, CodeRows, OwnRec, QuorumRefNew, QuorumRefGot, QuorumDocPlain.
-/
import Derived.Test.YtbhidndgnldheaaG16B
import Derived.Test.YtbhidndgnldheaaRingInts
import Derived.Test.YtbhidndgnldheaaG16C
import Derived.Test.YtbhidndgnldheaaVersOwn
import Derived.Test.YtbhidndgnldheaaSpanJoinRef
import Derived.Test.YtbhidndgnldheaaG16A
import Derived.Test.YtbhidndgnldheaaVersFresh
/-
  The document's asking: where a node stands, its mark, which lists are right.
-/
namespace Go.Proofs.Ytbhidndgnldheaa
namespace Quorum
open Go.RowKit Vers Span Blk
attribute [local go_sem ↓] Go.wp_at_zero Go.wp_at_succ

def placeF (l : List En) (node : Int) : Int := if (l.any (isAt node)) = true then ((l.findIdx (isAt node) : Nat) : Int) else -1
theorem place_hit {l : List En} {node : Int} {k : Nat} {e : En} (h : ∀ j x, j < k → l[j]? = some x → isAt node x = false) (he : l[k]? = some e) (ha : isAt node e = true) : placeF l node = (k : Int) := by
  have hany : l.any (isAt node) = true := List.any_eq_true.2 ⟨e, List.mem_of_getElem? he, ha⟩
  unfold placeF
  rw [if_pos hany]
  obtain ⟨hk, rfl⟩ := List.getElem?_eq_some_iff.1 he
  have : l.findIdx (isAt node) = k := by
    rw [List.findIdx_eq hk]
    exact ⟨ha, fun j hj => h j _ hj (List.getElem?_eq_getElem (by omega))⟩
  rw [this]
theorem place_none {l : List En} {node : Int} (h : ∀ j x, j < l.length → l[j]? = some x → isAt node x = false) : placeF l node = -1 := by
  unfold placeF
  rw [if_neg]
  intro ha
  obtain ⟨x, h1, h2⟩ := List.any_eq_true.1 ha
  obtain ⟨j, hj⟩ := List.getElem?_of_mem h1
  rw [h j x (List.getElem?_eq_some_iff.1 hj).1 hj] at h2
  cases h2
/-- Counted or not, by the place. -/
theorem place_count (l : List En) (node : Int) (a : List Vr) : (placeF l node = -1 ∧ countF l node a = (false, l)) ∨ ∃ (i : Nat) (an : List Vr), placeF l node = (i : Int) ∧ l[i]? = some (node, false, an) ∧ countF l node a = (true, l.set i (node, true, a)) := by
  unfold placeF countF
  by_cases ha : (l.any (isAt node)) = true
  · rw [if_pos ha, if_pos ha]
    have hlt : l.findIdx (isAt node) < l.length := List.findIdx_lt_length_of_exists (by obtain ⟨x, h1, h2⟩ := List.any_eq_true.1 ha; exact ⟨x, h1, h2⟩)
    have hf : isAt node l[l.findIdx (isAt node)] = true := List.findIdx_getElem
    obtain ⟨⟨nd, bo, an⟩, he⟩ : ∃ e, l[l.findIdx (isAt node)] = e := ⟨_, rfl⟩
    rw [he] at hf
    simp [isAt] at hf
    obtain ⟨rfl, rfl⟩ := hf
    exact .inr ⟨_, an, rfl, by rw [List.getElem?_eq_getElem hlt, he], rfl⟩
  · rw [if_neg ha, if_neg ha]
    exact .inl ⟨rfl, rfl⟩
set_option maxRecDepth 100000 in
set_option maxHeartbeats 1000000 in
theorem place_any {T : TypeId} {F : Nat → Prop} {w : World} {rb n lb cl cb ab : Nat} {need : Int} {l : List En} {x : List Value} (h : Core T F w rb need l n lb cl cb ab x) (node : Int) :
    Calls Try.prog 37 #[hd rb, .int .i64 node] w (fun e w' => e = .returned (.int .i64 (placeF l node)) ∧ w' = w) := by
  have hn8 : n ≤ 8 := h.1.2.2.2
  have hlen := h.len
  have HC := Lib.hid h
  obtain ⟨x0, x1, x2, x3⟩ := h.head
  obtain ⟨R, hR⟩ : ∃ R, placeF l node = R := ⟨_, rfl⟩
  have HR := Lib.hid (And.intro hR hlen)
  rw [hR]
  clear h hR hlen
  go_enter Try.func37, Try.ntmps37
  go_wp2_with fail
  go_loop [5] (fun q => ∃ k : Nat, q = .int .i64 k ∧ k ≤ n ∧ Hid (∀ j x, j < k → l[j]? = some x → isAt node x = false)) (fun q => n - (intOf q).toNat)
  case atStart => exact ⟨0, rfl, by omega, Lib.hid (fun j x hj _ => absurd hj (Nat.not_lt_zero j))⟩
  case round =>
    obtain ⟨k, rfl, hk, hst⟩ := hrel
    by_cases hlt : k < n
    · obtain ⟨⟨nd, bo, an⟩, he⟩ : ∃ e, l[k]? = some e := ⟨l[k]'(by have := HR.out.2; omega), by simp⟩
      obtain ⟨y0, y1⟩ := HC.out.at he
      simp only at y0 y1
      have d1 : (0 : Int) ≤ (k : Int) := by omega
      have d2 : (k : Int) < (n : Int) := by omega
      have HE := Lib.hid he
      clear he
      by_cases hnd : nd = node
      · subst hnd
        cases bo
        · have HF : Hid (R = (k : Int)) := Lib.hid (by rw [← HR.out.1]; exact place_hit hst.out HE.out (by simp [isAt]))
          go_wp2_with fail
          go_ret
          exact ⟨by rw [HF.out]; rfl, rfl⟩
        · have HN : Hid (∀ j x, j < k + 1 → l[j]? = some x → isAt nd x = false) := Lib.hid (fun j x hj hx => by
            by_cases hjk : j < k
            · exact hst.out j x hjk hx
            · obtain rfl : j = k := by omega
              rw [HE.out] at hx
              injection hx with hx
              subst hx
              simp [isAt])
          go_wp2_with fail
          exact ⟨⟨k + 1, rfl, by omega, HN⟩, by simp only [intOf]; omega⟩
      · have g1 : (nd == node) = false := by simpa using hnd
        have HN : Hid (∀ j x, j < k + 1 → l[j]? = some x → isAt node x = false) := Lib.hid (fun j x hj hx => by
            by_cases hjk : j < k
            · exact hst.out j x hjk hx
            · obtain rfl : j = k := by omega
              rw [HE.out] at hx
              injection hx with hx
              subst hx
              simp [isAt, hnd])
        go_wp2_with fail
        exact ⟨⟨k + 1, rfl, by omega, HN⟩, by simp only [intOf]; omega⟩
    · have hkn : k = n := by omega
      subst hkn
      have HF : Hid (R = -1) := Lib.hid (by rw [← HR.out.1]; exact place_none fun j x hj => hst.out j x (by have := HR.out.2; omega))
      clear hst
      go_wp2_with fail
      go_ret
      exact ⟨by rw [HF.out]; rfl, rfl⟩
set_option maxRecDepth 100000 in
set_option maxHeartbeats 1000000 in
theorem ackA_any {T : TypeId} {F : Nat → Prop} {w : World} {rb n lb cl cb ab : Nat} {need : Int} {l : List En} {x : List Value} (h : Core T F w rb need l n lb cl cb ab x) (node : Int) {b : Bool} {l' : List En} (hc : countF l node [] = (b, l')) :
    Calls Try.prog 12 #[hd rb, .int .i64 node] w (fun e w' => e = .returned (.bool b) ∧ Hid (Core T F w' rb need l' n lb cl cb ab x ∧ Chg F w w')) := by
  have hn8 : n ≤ 8 := h.1.2.2.2
  have hlen := h.len
  have HP := Lib.hid (place_any h node)
  obtain ⟨x0, x1, x2, x3⟩ := h.head
  rcases place_count l node [] with ⟨h1, h2⟩ | ⟨i, an, h1, he, h2⟩
  · rw [hc] at h2
    injection h2.symm with q1 q2
    subst q1 q2
    rw [h1] at HP
    have HK : Hid (Core T F w rb need l n lb cl cb ab x ∧ Chg F w w) := Lib.hid ⟨h, Chg.of_below (Below.refl _ _)⟩
    clear h h1 h2 hc
    go_enter Try.func12, Try.ntmps12
    go_wp2_with fail
    refine HP.out.mono ?_
    rintro e w1 ⟨rfl, rfl⟩
    go_wp2_with fail
    go_ret
    exact ⟨rfl, HK.out⟩
  · rw [hc] at h2
    injection h2.symm with q1 q2
    subst q1 q2
    rw [h1] at HP
    have hin : i < n := by rw [← hlen]; exact (List.getElem?_eq_some_iff.1 he).1
    have d1 : (0 : Int) ≤ (i : Int) := by omega
    have d2 : (i : Int) < (n : Int) := by omega
    obtain ⟨y0, y1⟩ := h.at he
    simp only at y0 y1
    have hcore := h.mark he []
    have g1 := gset w cb i (.bool true)
    have z0 := h.2.2.1.frozen i
    have hchg : Chg F w (w.setCell ⟨cb, i, none⟩ (.bool true)) := Chg.of_grown g1 (F := F) fun g e => by injection e with e; rw [← e]; exact h.2.2.2.1.2.2.1
    have HK := Lib.hid (And.intro hcore hchg)
    clear h h1 h2 hc he hcore g1 hchg
    go_enter Try.func12, Try.ntmps12
    go_wp2_with fail
    refine HP.out.mono ?_
    rintro e w1 ⟨rfl, rfl⟩
    go_wp2_with fail
    go_ret
    exact ⟨rfl, HK.out⟩
end Quorum
end Go.Proofs.Ytbhidndgnldheaa

/-
  Which lists are right: the document's word. Written by gen16/right.py.
-/
namespace Go.Proofs.Ytbhidndgnldheaa
namespace Quorum
open Go.RowKit Vers Span Blk
attribute [local go_sem ↓] Go.wp_at_zero Go.wp_at_succ

set_option maxRecDepth 100000 in
set_option maxHeartbeats 1000000 in
theorem rightA_any (A : Option Addr) (c n : Nat) (ls : List Int) (hn : ls.length = n) (need : Int) (w : World) (hr : Ns .i64 w w.heap.size A ls) (hbig : n ≤ 140737488355328) (hnc : n ≤ c) :
    Calls Try.prog 9 #[.slice A n c, .int .i64 need] w (fun e w' => e = .returned (.bool (decide (okL ls need))) ∧ Below w.heap.size w w') := by
  obtain ⟨R, hR⟩ : ∃ R, decide (okL ls need) = R := ⟨_, rfl⟩
  rw [hR]
  have HV := Lib.hid (And.intro hr (And.intro hn hR))
  clear hr hn hR
  by_cases hb : (n : Int) ≤ 8 ∧ 1 ≤ need ∧ need ≤ (n : Int)
  · obtain ⟨hb1, hb2, hb3⟩ := hb
    have g0 : ¬ (n : Int) = 0 := by omega
    have g0' : ((n : Int) == 0) = false := by simp; omega
    have g1 : ¬ (8 : Int) < (n : Int) := by omega
    have g2 : ¬ need < 1 := by omega
    have g3 : ¬ (n : Int) < need := by omega
    obtain ⟨ob, oo, rfl, hbl, _⟩ := HV.out.1 (by have := HV.out.2.1; omega)
    have hc0 : ¬ 0 = c := by omega
    have hc1 : ¬ c = 0 := by omega
    go_enter Try.func9, Try.ntmps9
    go_wp2_with fail
    clear g0 g0' g1 g2 g3
    go_loopw [5] (fun q wr => ∃ k : Nat, q = .int .i64 k ∧ k ≤ n ∧ Hid (Below w.heap.size w wr ∧ Good ls k)) (fun q _ => n - (intOf q).toNat)
    case atStart => exact ⟨0, rfl, by omega, Lib.hid ⟨Below.refl _ _, good_zero ls⟩⟩
    case round =>
      obtain ⟨k, rfl, hk, hst⟩ := hrel
      by_cases hlt : k < n
      · obtain ⟨x, hx⟩ : ∃ x, ls[k]? = some x := ⟨ls[k]'(by have := HV.out.2.1; omega), by simp⟩
        have HX := Lib.hid hx
        have hwd : Below wr.heap.size wr wr.drew := (Below.refl _ wr).drew
        have HS : Hid (∀ V, Below wr.heap.size wr V → V.cell? ⟨ob, oo + k, none⟩ = some (.int .i64 x)) := Lib.hid fun V hV => by
          obtain ⟨b', o', e', _, hat⟩ := (HV.out.1.below (hst.out.1.trans (hV.mono hst.out.1.size))) (by have := HV.out.2.1; omega)
          injection e' with e'
          injection e' with e1 e2 _
          subst e1 e2
          have z0 := hat k (by have := HV.out.2.1; omega)
          rw [List.getD_eq_getElem?_getD, hx] at z0
          exact z0
        have HIN := Lib.hid (Ring.in_any (some ⟨ob, oo, none⟩) c k (ls.take k) (by rw [List.length_take]; have := HV.out.2.1; omega) x wr.drew (((HV.out.1.below (hst.out.1.trans (hwd.mono hst.out.1.size))).take k).more (Nat.le_trans hst.out.1.size hwd.size)) (by omega))
        clear hx
        have d1 : (0 : Int) ≤ (k : Int) := by omega
        have d2 : (k : Int) < (n : Int) := by omega
        have hkc : k ≤ c := by omega
        have d3 : (k : Int) ≤ (c : Int) := by omega
        by_cases hx0 : x < 1
        · have HNO : Hid (R = false) := Lib.hid (by rw [← HV.out.2.2]; exact decide_eq_false (good_not HX.out (.inl (by omega))))
          have HE := Lib.hid (hst.out.1.trans (hwd.mono hst.out.1.size))
          have q1 : decide (x < 1) = true := decide_eq_true hx0
          clear HIN
          go_wp2_with fail
          refine wp_region_held_drew (S := fun V => V.cell? ⟨ob, oo + k, none⟩ = some (.int .i64 x)) (by kernel_rfl) (HS.out _ hwd) (fun hHeld => ?_)
          refine wpAnyH_take (i := 0) (oi := { dst := some 30, op := Op.move (Operand.tmp 0), type := 22, pos := "ref.go:28", after := #[], guard := none }) (v := ?vl1) rfl (by kernel_rfl) (by kernel_rfl) (by kernel_rfl) (fun _ _ _ h => h) (Or.inl ⟨by rfl, ?hyl1⟩) (by assumption) ?restl1
          case hyl1 =>
            intro w hSw
            (try dsimp only at hSw)
            go_simp
            (try with_reducible rfl)
          (try simp only [Act.put, List.setIfInBounds_toArray, List.set_cons_zero, List.set_cons_succ])
          refine wpAnyH_take (i := 1) (oi := { dst := some 31, op := Op.move (Operand.tmp 5), type := 3, pos := "ref.go:28", after := #[], guard := none }) (v := ?vl2) rfl (by kernel_rfl) (by kernel_rfl) (by kernel_rfl) (fun _ _ _ h => h) (Or.inl ⟨by rfl, ?hyl2⟩) (by assumption) ?restl2
          case hyl2 =>
            intro w hSw
            (try dsimp only at hSw)
            go_simp
            (try with_reducible rfl)
          (try simp only [Act.put, List.setIfInBounds_toArray, List.set_cons_zero, List.set_cons_succ])
          refine wpAnyH_take (i := 2) (oi := { dst := some 32, op := Op.indexAddr 22 (Operand.tmp 30) (Operand.tmp 31), type := 0, pos := "ref.go:28", after := #[{ on := 0, ground := Ground.data }, { on := 1, ground := Ground.data }], guard := none }) (v := ?vl3) rfl (by kernel_rfl) (by kernel_rfl) (by kernel_rfl) (fun _ _ _ h => h) (Or.inl ⟨by rfl, ?hyl3⟩) (by assumption) ?restl3
          case hyl3 =>
            intro w hSw
            (try dsimp only at hSw)
            go_simp
            (try with_reducible rfl)
          (try simp only [Act.put, List.setIfInBounds_toArray, List.set_cons_zero, List.set_cons_succ])
          refine wpAnyH_take (i := 3) (oi := { dst := some 33, op := Op.load 3 (Operand.tmp 32), type := 3, pos := "ref.go:28", after := #[{ on := 2, ground := Ground.data }], guard := none }) (v := ?vl4) rfl (by kernel_rfl) (by kernel_rfl) (by kernel_rfl) (fun _ _ _ h => h) (Or.inl ⟨by rfl, ?hyl4⟩) (by assumption) ?restl4
          case hyl4 =>
            intro w hSw
            (try dsimp only at hSw)
            go_simp
            (try with_reducible rfl)
          (try simp only [Act.put, List.setIfInBounds_toArray, List.set_cons_zero, List.set_cons_succ])
          refine wpAnyH_take (i := 4) (oi := { dst := some 34, op := Op.binOp BinOp.lss 3 (Operand.tmp 33) (Operand.const (Value.int IntKind.i64 1)) 3, type := 4, pos := "ref.go:28", after := #[{ on := 3, ground := Ground.data }], guard := none }) (v := ?vl5) rfl (by kernel_rfl) (by kernel_rfl) (by kernel_rfl) (fun _ _ _ h => h) (Or.inl ⟨by rfl, ?hyl5⟩) (by assumption) ?restl5
          case hyl5 =>
            intro w hSw
            (try dsimp only at hSw)
            go_simp
            (try with_reducible rfl)
          (try simp only [Act.put, List.setIfInBounds_toArray, List.set_cons_zero, List.set_cons_succ])
          refine wpAnyH_take (i := 5) (oi := { dst := some 35, op := Op.move (Operand.tmp 34), type := 4, pos := "ref.go:28", after := #[{ on := 4, ground := Ground.data }], guard := none }) (v := ?vl6) rfl (by kernel_rfl) (by kernel_rfl) (by kernel_rfl) (fun _ _ _ h => h) (Or.inl ⟨by rfl, ?hyl6⟩) (by assumption) ?restl6
          case hyl6 =>
            intro w hSw
            (try dsimp only at hSw)
            go_simp
            (try with_reducible rfl)
          (try simp only [Act.put, List.setIfInBounds_toArray, List.set_cons_zero, List.set_cons_succ])
          refine wpAnyH_take (i := 6) (oi := { dst := some 36, op := Op.move (Operand.tmp 0), type := 22, pos := "ref.go:28", after := #[{ on := 5, ground := Ground.guard }], guard := some (5, false) }) (v := undef) rfl (by kernel_rfl) (by kernel_rfl) (by kernel_rfl) (fun _ _ _ h => h) (Or.inr ⟨by rfl, rfl⟩) (by assumption) ?_
          (try simp only [Act.put, List.setIfInBounds_toArray, List.set_cons_zero, List.set_cons_succ])
          refine wpAnyH_take (i := 7) (oi := { dst := some 37, op := Op.move (Operand.tmp 5), type := 3, pos := "ref.go:28", after := #[{ on := 5, ground := Ground.guard }], guard := some (5, false) }) (v := undef) rfl (by kernel_rfl) (by kernel_rfl) (by kernel_rfl) (fun _ _ _ h => h) (Or.inr ⟨by rfl, rfl⟩) (by assumption) ?_
          (try simp only [Act.put, List.setIfInBounds_toArray, List.set_cons_zero, List.set_cons_succ])
          refine wpAnyH_take (i := 8) (oi := { dst := some 38, op := Op.indexAddr 22 (Operand.tmp 36) (Operand.tmp 37), type := 0, pos := "ref.go:28", after := #[{ on := 6, ground := Ground.data }, { on := 7, ground := Ground.data }, { on := 5, ground := Ground.guard }], guard := some (5, false) }) (v := undef) rfl (by kernel_rfl) (by kernel_rfl) (by kernel_rfl) (fun _ _ _ h => h) (Or.inr ⟨by rfl, rfl⟩) (by assumption) ?_
          (try simp only [Act.put, List.setIfInBounds_toArray, List.set_cons_zero, List.set_cons_succ])
          refine wpAnyH_take (i := 9) (oi := { dst := some 39, op := Op.load 3 (Operand.tmp 38), type := 3, pos := "ref.go:28", after := #[{ on := 8, ground := Ground.data }, { on := 5, ground := Ground.guard }], guard := some (5, false) }) (v := undef) rfl (by kernel_rfl) (by kernel_rfl) (by kernel_rfl) (fun _ _ _ h => h) (Or.inr ⟨by rfl, rfl⟩) (by assumption) ?_
          (try simp only [Act.put, List.setIfInBounds_toArray, List.set_cons_zero, List.set_cons_succ])
          refine wpAnyH_take (i := 10) (oi := { dst := some 40, op := Op.binOp BinOp.gtr 3 (Operand.tmp 39) (Operand.const (Value.int IntKind.i64 8)) 3, type := 4, pos := "ref.go:28", after := #[{ on := 9, ground := Ground.data }, { on := 5, ground := Ground.guard }], guard := some (5, false) }) (v := undef) rfl (by kernel_rfl) (by kernel_rfl) (by kernel_rfl) (fun _ _ _ h => h) (Or.inr ⟨by rfl, rfl⟩) (by assumption) ?_
          (try simp only [Act.put, List.setIfInBounds_toArray, List.set_cons_zero, List.set_cons_succ])
          refine wpAnyH_take (i := 11) (oi := { dst := some 41, op := Op.pick (Operand.tmp 35) (Operand.const (Value.bool true)) (Operand.tmp 40), type := 4, pos := "ref.go:28", after := #[{ on := 5, ground := Ground.data }, { on := 10, ground := Ground.data }], guard := none }) (v := ?vl12) rfl (by kernel_rfl) (by kernel_rfl) (by kernel_rfl) (fun _ _ _ h => h) (Or.inl ⟨by rfl, ?hyl12⟩) (by assumption) ?restl12
          case hyl12 =>
            intro w hSw
            (try dsimp only at hSw)
            go_simp
            (try with_reducible rfl)
          (try simp only [Act.put, List.setIfInBounds_toArray, List.set_cons_zero, List.set_cons_succ])
          refine wpAnyH_take (i := 12) (oi := { dst := some 42, op := Op.move (Operand.tmp 41), type := 4, pos := "ref.go:28", after := #[{ on := 11, ground := Ground.data }, { on := 5, ground := Ground.chain }], guard := none }) (v := ?vl13) rfl (by kernel_rfl) (by kernel_rfl) (by kernel_rfl) (fun _ _ _ h => h) (Or.inl ⟨by rfl, ?hyl13⟩) (by assumption) ?restl13
          case hyl13 =>
            intro w hSw
            (try dsimp only at hSw)
            go_simp
            (try with_reducible rfl)
          (try simp only [Act.put, List.setIfInBounds_toArray, List.set_cons_zero, List.set_cons_succ])
          refine wpAnyH_take (i := 13) (oi := { dst := some 43, op := Op.move (Operand.tmp 0), type := 22, pos := "ref.go:28", after := #[{ on := 12, ground := Ground.guard }], guard := some (12, false) }) (v := undef) rfl (by kernel_rfl) (by kernel_rfl) (by kernel_rfl) (fun _ _ _ h => h) (Or.inr ⟨by rfl, rfl⟩) (by assumption) ?_
          (try simp only [Act.put, List.setIfInBounds_toArray, List.set_cons_zero, List.set_cons_succ])
          refine wpAnyH_take (i := 14) (oi := { dst := some 44, op := Op.move (Operand.tmp 5), type := 3, pos := "ref.go:28", after := #[{ on := 12, ground := Ground.guard }], guard := some (12, false) }) (v := undef) rfl (by kernel_rfl) (by kernel_rfl) (by kernel_rfl) (fun _ _ _ h => h) (Or.inr ⟨by rfl, rfl⟩) (by assumption) ?_
          (try simp only [Act.put, List.setIfInBounds_toArray, List.set_cons_zero, List.set_cons_succ])
          refine wpAnyH_take (i := 15) (oi := { dst := some 45, op := Op.slice 22 (Operand.tmp 43) none (some (Operand.tmp 44)) none, type := 22, pos := "ref.go:28", after := #[{ on := 13, ground := Ground.data }, { on := 14, ground := Ground.data }, { on := 12, ground := Ground.guard }], guard := some (12, false) }) (v := undef) rfl (by kernel_rfl) (by kernel_rfl) (by kernel_rfl) (fun _ _ _ h => h) (Or.inr ⟨by rfl, rfl⟩) (by assumption) ?_
          (try simp only [Act.put, List.setIfInBounds_toArray, List.set_cons_zero, List.set_cons_succ])
          refine wpAnyH_take (i := 16) (oi := { dst := some 46, op := Op.move (Operand.tmp 0), type := 22, pos := "ref.go:28", after := #[{ on := 12, ground := Ground.guard }], guard := some (12, false) }) (v := undef) rfl (by kernel_rfl) (by kernel_rfl) (by kernel_rfl) (fun _ _ _ h => h) (Or.inr ⟨by rfl, rfl⟩) (by assumption) ?_
          (try simp only [Act.put, List.setIfInBounds_toArray, List.set_cons_zero, List.set_cons_succ])
          refine wpAnyH_take (i := 17) (oi := { dst := some 47, op := Op.move (Operand.tmp 5), type := 3, pos := "ref.go:28", after := #[{ on := 12, ground := Ground.guard }], guard := some (12, false) }) (v := undef) rfl (by kernel_rfl) (by kernel_rfl) (by kernel_rfl) (fun _ _ _ h => h) (Or.inr ⟨by rfl, rfl⟩) (by assumption) ?_
          (try simp only [Act.put, List.setIfInBounds_toArray, List.set_cons_zero, List.set_cons_succ])
          refine wpAnyH_take (i := 18) (oi := { dst := some 48, op := Op.indexAddr 22 (Operand.tmp 46) (Operand.tmp 47), type := 0, pos := "ref.go:28", after := #[{ on := 16, ground := Ground.data }, { on := 17, ground := Ground.data }, { on := 12, ground := Ground.guard }], guard := some (12, false) }) (v := undef) rfl (by kernel_rfl) (by kernel_rfl) (by kernel_rfl) (fun _ _ _ h => h) (Or.inr ⟨by rfl, rfl⟩) (by assumption) ?_
          (try simp only [Act.put, List.setIfInBounds_toArray, List.set_cons_zero, List.set_cons_succ])
          refine wpAnyH_take (i := 19) (oi := { dst := some 49, op := Op.load 3 (Operand.tmp 48), type := 3, pos := "ref.go:28", after := #[{ on := 18, ground := Ground.data }, { on := 12, ground := Ground.guard }], guard := some (12, false) }) (v := undef) rfl (by kernel_rfl) (by kernel_rfl) (by kernel_rfl) (fun _ _ _ h => h) (Or.inr ⟨by rfl, rfl⟩) (by assumption) ?_
          (try simp only [Act.put, List.setIfInBounds_toArray, List.set_cons_zero, List.set_cons_succ])
          refine wpAnyH_take (i := 20) (oi := { dst := some 50, op := Op.call { callee := Callee.value (Operand.func 34), args := #[Operand.tmp 45, Operand.tmp 49], argTypes := #[22, 3] }, type := 4, pos := "ref.go:28", after := #[{ on := 15, ground := Ground.data }, { on := 19, ground := Ground.data }, { on := 12, ground := Ground.chain }, { on := 12, ground := Ground.guard }], guard := some (12, false) }) (v := undef) rfl (by kernel_rfl) (by kernel_rfl) (by kernel_rfl) (fun _ _ _ h => h) (Or.inr ⟨by rfl, rfl⟩) (by assumption) ?_
          (try simp only [Act.put, List.setIfInBounds_toArray, List.set_cons_zero, List.set_cons_succ])
          refine wpAnyH_take (i := 21) (oi := { dst := some 51, op := Op.pick (Operand.tmp 42) (Operand.const (Value.bool true)) (Operand.tmp 50), type := 4, pos := "ref.go:28", after := #[{ on := 12, ground := Ground.data }, { on := 20, ground := Ground.data }], guard := none }) (v := ?vl22) rfl (by kernel_rfl) (by kernel_rfl) (by kernel_rfl) (fun _ _ _ h => h) (Or.inl ⟨by rfl, ?hyl22⟩) (by assumption) ?restl22
          case hyl22 =>
            intro w hSw
            (try dsimp only at hSw)
            go_simp
            (try with_reducible rfl)
          (try simp only [Act.put, List.setIfInBounds_toArray, List.set_cons_zero, List.set_cons_succ])
          refine wpAnyH_done (by kernel_rfl) ?_ _
          go_wp2_with fail
          go_ret
          exact ⟨by rw [HNO.out]; rfl, HE.out⟩

        · have q1 : decide (x < 1) = false := decide_eq_false hx0
          by_cases hx8 : 8 < x
          · have HNO : Hid (R = false) := Lib.hid (by rw [← HV.out.2.2]; exact decide_eq_false (good_not HX.out (.inl (by omega))))
            have HE := Lib.hid (hst.out.1.trans (hwd.mono hst.out.1.size))
            have q2 : decide (8 < x) = true := decide_eq_true hx8
            clear HIN
            go_wp2_with fail
            refine wp_region_held_drew (S := fun V => V.cell? ⟨ob, oo + k, none⟩ = some (.int .i64 x)) (by kernel_rfl) (HS.out _ hwd) (fun hHeld => ?_)
            refine wpAnyH_take (i := 0) (oi := { dst := some 30, op := Op.move (Operand.tmp 0), type := 22, pos := "ref.go:28", after := #[], guard := none }) (v := ?vh1) rfl (by kernel_rfl) (by kernel_rfl) (by kernel_rfl) (fun _ _ _ h => h) (Or.inl ⟨by rfl, ?hyh1⟩) (by assumption) ?resth1
            case hyh1 =>
              intro w hSw
              (try dsimp only at hSw)
              go_simp
              (try with_reducible rfl)
            (try simp only [Act.put, List.setIfInBounds_toArray, List.set_cons_zero, List.set_cons_succ])
            refine wpAnyH_take (i := 1) (oi := { dst := some 31, op := Op.move (Operand.tmp 5), type := 3, pos := "ref.go:28", after := #[], guard := none }) (v := ?vh2) rfl (by kernel_rfl) (by kernel_rfl) (by kernel_rfl) (fun _ _ _ h => h) (Or.inl ⟨by rfl, ?hyh2⟩) (by assumption) ?resth2
            case hyh2 =>
              intro w hSw
              (try dsimp only at hSw)
              go_simp
              (try with_reducible rfl)
            (try simp only [Act.put, List.setIfInBounds_toArray, List.set_cons_zero, List.set_cons_succ])
            refine wpAnyH_take (i := 2) (oi := { dst := some 32, op := Op.indexAddr 22 (Operand.tmp 30) (Operand.tmp 31), type := 0, pos := "ref.go:28", after := #[{ on := 0, ground := Ground.data }, { on := 1, ground := Ground.data }], guard := none }) (v := ?vh3) rfl (by kernel_rfl) (by kernel_rfl) (by kernel_rfl) (fun _ _ _ h => h) (Or.inl ⟨by rfl, ?hyh3⟩) (by assumption) ?resth3
            case hyh3 =>
              intro w hSw
              (try dsimp only at hSw)
              go_simp
              (try with_reducible rfl)
            (try simp only [Act.put, List.setIfInBounds_toArray, List.set_cons_zero, List.set_cons_succ])
            refine wpAnyH_take (i := 3) (oi := { dst := some 33, op := Op.load 3 (Operand.tmp 32), type := 3, pos := "ref.go:28", after := #[{ on := 2, ground := Ground.data }], guard := none }) (v := ?vh4) rfl (by kernel_rfl) (by kernel_rfl) (by kernel_rfl) (fun _ _ _ h => h) (Or.inl ⟨by rfl, ?hyh4⟩) (by assumption) ?resth4
            case hyh4 =>
              intro w hSw
              (try dsimp only at hSw)
              go_simp
              (try with_reducible rfl)
            (try simp only [Act.put, List.setIfInBounds_toArray, List.set_cons_zero, List.set_cons_succ])
            refine wpAnyH_take (i := 4) (oi := { dst := some 34, op := Op.binOp BinOp.lss 3 (Operand.tmp 33) (Operand.const (Value.int IntKind.i64 1)) 3, type := 4, pos := "ref.go:28", after := #[{ on := 3, ground := Ground.data }], guard := none }) (v := ?vh5) rfl (by kernel_rfl) (by kernel_rfl) (by kernel_rfl) (fun _ _ _ h => h) (Or.inl ⟨by rfl, ?hyh5⟩) (by assumption) ?resth5
            case hyh5 =>
              intro w hSw
              (try dsimp only at hSw)
              go_simp
              (try with_reducible rfl)
            (try simp only [Act.put, List.setIfInBounds_toArray, List.set_cons_zero, List.set_cons_succ])
            refine wpAnyH_take (i := 5) (oi := { dst := some 35, op := Op.move (Operand.tmp 34), type := 4, pos := "ref.go:28", after := #[{ on := 4, ground := Ground.data }], guard := none }) (v := ?vh6) rfl (by kernel_rfl) (by kernel_rfl) (by kernel_rfl) (fun _ _ _ h => h) (Or.inl ⟨by rfl, ?hyh6⟩) (by assumption) ?resth6
            case hyh6 =>
              intro w hSw
              (try dsimp only at hSw)
              go_simp
              (try with_reducible rfl)
            (try simp only [Act.put, List.setIfInBounds_toArray, List.set_cons_zero, List.set_cons_succ])
            refine wpAnyH_take (i := 6) (oi := { dst := some 36, op := Op.move (Operand.tmp 0), type := 22, pos := "ref.go:28", after := #[{ on := 5, ground := Ground.guard }], guard := some (5, false) }) (v := ?vh7) rfl (by kernel_rfl) (by kernel_rfl) (by kernel_rfl) (fun _ _ _ h => h) (Or.inl ⟨by rfl, ?hyh7⟩) (by assumption) ?resth7
            case hyh7 =>
              intro w hSw
              (try dsimp only at hSw)
              go_simp
              (try with_reducible rfl)
            (try simp only [Act.put, List.setIfInBounds_toArray, List.set_cons_zero, List.set_cons_succ])
            refine wpAnyH_take (i := 7) (oi := { dst := some 37, op := Op.move (Operand.tmp 5), type := 3, pos := "ref.go:28", after := #[{ on := 5, ground := Ground.guard }], guard := some (5, false) }) (v := ?vh8) rfl (by kernel_rfl) (by kernel_rfl) (by kernel_rfl) (fun _ _ _ h => h) (Or.inl ⟨by rfl, ?hyh8⟩) (by assumption) ?resth8
            case hyh8 =>
              intro w hSw
              (try dsimp only at hSw)
              go_simp
              (try with_reducible rfl)
            (try simp only [Act.put, List.setIfInBounds_toArray, List.set_cons_zero, List.set_cons_succ])
            refine wpAnyH_take (i := 8) (oi := { dst := some 38, op := Op.indexAddr 22 (Operand.tmp 36) (Operand.tmp 37), type := 0, pos := "ref.go:28", after := #[{ on := 6, ground := Ground.data }, { on := 7, ground := Ground.data }, { on := 5, ground := Ground.guard }], guard := some (5, false) }) (v := ?vh9) rfl (by kernel_rfl) (by kernel_rfl) (by kernel_rfl) (fun _ _ _ h => h) (Or.inl ⟨by rfl, ?hyh9⟩) (by assumption) ?resth9
            case hyh9 =>
              intro w hSw
              (try dsimp only at hSw)
              go_simp
              (try with_reducible rfl)
            (try simp only [Act.put, List.setIfInBounds_toArray, List.set_cons_zero, List.set_cons_succ])
            refine wpAnyH_take (i := 9) (oi := { dst := some 39, op := Op.load 3 (Operand.tmp 38), type := 3, pos := "ref.go:28", after := #[{ on := 8, ground := Ground.data }, { on := 5, ground := Ground.guard }], guard := some (5, false) }) (v := ?vh10) rfl (by kernel_rfl) (by kernel_rfl) (by kernel_rfl) (fun _ _ _ h => h) (Or.inl ⟨by rfl, ?hyh10⟩) (by assumption) ?resth10
            case hyh10 =>
              intro w hSw
              (try dsimp only at hSw)
              go_simp
              (try with_reducible rfl)
            (try simp only [Act.put, List.setIfInBounds_toArray, List.set_cons_zero, List.set_cons_succ])
            refine wpAnyH_take (i := 10) (oi := { dst := some 40, op := Op.binOp BinOp.gtr 3 (Operand.tmp 39) (Operand.const (Value.int IntKind.i64 8)) 3, type := 4, pos := "ref.go:28", after := #[{ on := 9, ground := Ground.data }, { on := 5, ground := Ground.guard }], guard := some (5, false) }) (v := ?vh11) rfl (by kernel_rfl) (by kernel_rfl) (by kernel_rfl) (fun _ _ _ h => h) (Or.inl ⟨by rfl, ?hyh11⟩) (by assumption) ?resth11
            case hyh11 =>
              intro w hSw
              (try dsimp only at hSw)
              go_simp
              (try with_reducible rfl)
            (try simp only [Act.put, List.setIfInBounds_toArray, List.set_cons_zero, List.set_cons_succ])
            refine wpAnyH_take (i := 11) (oi := { dst := some 41, op := Op.pick (Operand.tmp 35) (Operand.const (Value.bool true)) (Operand.tmp 40), type := 4, pos := "ref.go:28", after := #[{ on := 5, ground := Ground.data }, { on := 10, ground := Ground.data }], guard := none }) (v := ?vh12) rfl (by kernel_rfl) (by kernel_rfl) (by kernel_rfl) (fun _ _ _ h => h) (Or.inl ⟨by rfl, ?hyh12⟩) (by assumption) ?resth12
            case hyh12 =>
              intro w hSw
              (try dsimp only at hSw)
              go_simp
              (try with_reducible rfl)
            (try simp only [Act.put, List.setIfInBounds_toArray, List.set_cons_zero, List.set_cons_succ])
            refine wpAnyH_take (i := 12) (oi := { dst := some 42, op := Op.move (Operand.tmp 41), type := 4, pos := "ref.go:28", after := #[{ on := 11, ground := Ground.data }, { on := 5, ground := Ground.chain }], guard := none }) (v := ?vh13) rfl (by kernel_rfl) (by kernel_rfl) (by kernel_rfl) (fun _ _ _ h => h) (Or.inl ⟨by rfl, ?hyh13⟩) (by assumption) ?resth13
            case hyh13 =>
              intro w hSw
              (try dsimp only at hSw)
              go_simp
              (try with_reducible rfl)
            (try simp only [Act.put, List.setIfInBounds_toArray, List.set_cons_zero, List.set_cons_succ])
            refine wpAnyH_take (i := 13) (oi := { dst := some 43, op := Op.move (Operand.tmp 0), type := 22, pos := "ref.go:28", after := #[{ on := 12, ground := Ground.guard }], guard := some (12, false) }) (v := undef) rfl (by kernel_rfl) (by kernel_rfl) (by kernel_rfl) (fun _ _ _ h => h) (Or.inr ⟨by rfl, rfl⟩) (by assumption) ?_
            (try simp only [Act.put, List.setIfInBounds_toArray, List.set_cons_zero, List.set_cons_succ])
            refine wpAnyH_take (i := 14) (oi := { dst := some 44, op := Op.move (Operand.tmp 5), type := 3, pos := "ref.go:28", after := #[{ on := 12, ground := Ground.guard }], guard := some (12, false) }) (v := undef) rfl (by kernel_rfl) (by kernel_rfl) (by kernel_rfl) (fun _ _ _ h => h) (Or.inr ⟨by rfl, rfl⟩) (by assumption) ?_
            (try simp only [Act.put, List.setIfInBounds_toArray, List.set_cons_zero, List.set_cons_succ])
            refine wpAnyH_take (i := 15) (oi := { dst := some 45, op := Op.slice 22 (Operand.tmp 43) none (some (Operand.tmp 44)) none, type := 22, pos := "ref.go:28", after := #[{ on := 13, ground := Ground.data }, { on := 14, ground := Ground.data }, { on := 12, ground := Ground.guard }], guard := some (12, false) }) (v := undef) rfl (by kernel_rfl) (by kernel_rfl) (by kernel_rfl) (fun _ _ _ h => h) (Or.inr ⟨by rfl, rfl⟩) (by assumption) ?_
            (try simp only [Act.put, List.setIfInBounds_toArray, List.set_cons_zero, List.set_cons_succ])
            refine wpAnyH_take (i := 16) (oi := { dst := some 46, op := Op.move (Operand.tmp 0), type := 22, pos := "ref.go:28", after := #[{ on := 12, ground := Ground.guard }], guard := some (12, false) }) (v := undef) rfl (by kernel_rfl) (by kernel_rfl) (by kernel_rfl) (fun _ _ _ h => h) (Or.inr ⟨by rfl, rfl⟩) (by assumption) ?_
            (try simp only [Act.put, List.setIfInBounds_toArray, List.set_cons_zero, List.set_cons_succ])
            refine wpAnyH_take (i := 17) (oi := { dst := some 47, op := Op.move (Operand.tmp 5), type := 3, pos := "ref.go:28", after := #[{ on := 12, ground := Ground.guard }], guard := some (12, false) }) (v := undef) rfl (by kernel_rfl) (by kernel_rfl) (by kernel_rfl) (fun _ _ _ h => h) (Or.inr ⟨by rfl, rfl⟩) (by assumption) ?_
            (try simp only [Act.put, List.setIfInBounds_toArray, List.set_cons_zero, List.set_cons_succ])
            refine wpAnyH_take (i := 18) (oi := { dst := some 48, op := Op.indexAddr 22 (Operand.tmp 46) (Operand.tmp 47), type := 0, pos := "ref.go:28", after := #[{ on := 16, ground := Ground.data }, { on := 17, ground := Ground.data }, { on := 12, ground := Ground.guard }], guard := some (12, false) }) (v := undef) rfl (by kernel_rfl) (by kernel_rfl) (by kernel_rfl) (fun _ _ _ h => h) (Or.inr ⟨by rfl, rfl⟩) (by assumption) ?_
            (try simp only [Act.put, List.setIfInBounds_toArray, List.set_cons_zero, List.set_cons_succ])
            refine wpAnyH_take (i := 19) (oi := { dst := some 49, op := Op.load 3 (Operand.tmp 48), type := 3, pos := "ref.go:28", after := #[{ on := 18, ground := Ground.data }, { on := 12, ground := Ground.guard }], guard := some (12, false) }) (v := undef) rfl (by kernel_rfl) (by kernel_rfl) (by kernel_rfl) (fun _ _ _ h => h) (Or.inr ⟨by rfl, rfl⟩) (by assumption) ?_
            (try simp only [Act.put, List.setIfInBounds_toArray, List.set_cons_zero, List.set_cons_succ])
            refine wpAnyH_take (i := 20) (oi := { dst := some 50, op := Op.call { callee := Callee.value (Operand.func 34), args := #[Operand.tmp 45, Operand.tmp 49], argTypes := #[22, 3] }, type := 4, pos := "ref.go:28", after := #[{ on := 15, ground := Ground.data }, { on := 19, ground := Ground.data }, { on := 12, ground := Ground.chain }, { on := 12, ground := Ground.guard }], guard := some (12, false) }) (v := undef) rfl (by kernel_rfl) (by kernel_rfl) (by kernel_rfl) (fun _ _ _ h => h) (Or.inr ⟨by rfl, rfl⟩) (by assumption) ?_
            (try simp only [Act.put, List.setIfInBounds_toArray, List.set_cons_zero, List.set_cons_succ])
            refine wpAnyH_take (i := 21) (oi := { dst := some 51, op := Op.pick (Operand.tmp 42) (Operand.const (Value.bool true)) (Operand.tmp 50), type := 4, pos := "ref.go:28", after := #[{ on := 12, ground := Ground.data }, { on := 20, ground := Ground.data }], guard := none }) (v := ?vh22) rfl (by kernel_rfl) (by kernel_rfl) (by kernel_rfl) (fun _ _ _ h => h) (Or.inl ⟨by rfl, ?hyh22⟩) (by assumption) ?resth22
            case hyh22 =>
              intro w hSw
              (try dsimp only at hSw)
              go_simp
              (try with_reducible rfl)
            (try simp only [Act.put, List.setIfInBounds_toArray, List.set_cons_zero, List.set_cons_succ])
            refine wpAnyH_done (by kernel_rfl) ?_ _
            go_wp2_with fail
            go_ret
            exact ⟨by rw [HNO.out]; rfl, HE.out⟩

          · have q2 : decide (8 < x) = false := decide_eq_false hx8
            by_cases hin : x ∈ ls.take k
            · rw [decide_eq_true hin] at HIN
              have HNO : Hid (R = false) := Lib.hid (by rw [← HV.out.2.2]; exact decide_eq_false (good_not HX.out (.inr hin)))
              clear hin
              go_wp2_with fail
              refine wp_region_held_drew (S := fun V => V.cell? ⟨ob, oo + k, none⟩ = some (.int .i64 x)) (by kernel_rfl) (HS.out _ hwd) (fun hHeld => ?_)
              refine wpAnyH_take (i := 0) (oi := { dst := some 30, op := Op.move (Operand.tmp 0), type := 22, pos := "ref.go:28", after := #[], guard := none }) (v := ?vi1) rfl (by kernel_rfl) (by kernel_rfl) (by kernel_rfl) (fun _ _ _ h => h) (Or.inl ⟨by rfl, ?hyi1⟩) (by assumption) ?resti1
              case hyi1 =>
                intro w hSw
                (try dsimp only at hSw)
                go_simp
                (try with_reducible rfl)
              (try simp only [Act.put, List.setIfInBounds_toArray, List.set_cons_zero, List.set_cons_succ])
              refine wpAnyH_take (i := 1) (oi := { dst := some 31, op := Op.move (Operand.tmp 5), type := 3, pos := "ref.go:28", after := #[], guard := none }) (v := ?vi2) rfl (by kernel_rfl) (by kernel_rfl) (by kernel_rfl) (fun _ _ _ h => h) (Or.inl ⟨by rfl, ?hyi2⟩) (by assumption) ?resti2
              case hyi2 =>
                intro w hSw
                (try dsimp only at hSw)
                go_simp
                (try with_reducible rfl)
              (try simp only [Act.put, List.setIfInBounds_toArray, List.set_cons_zero, List.set_cons_succ])
              refine wpAnyH_take (i := 2) (oi := { dst := some 32, op := Op.indexAddr 22 (Operand.tmp 30) (Operand.tmp 31), type := 0, pos := "ref.go:28", after := #[{ on := 0, ground := Ground.data }, { on := 1, ground := Ground.data }], guard := none }) (v := ?vi3) rfl (by kernel_rfl) (by kernel_rfl) (by kernel_rfl) (fun _ _ _ h => h) (Or.inl ⟨by rfl, ?hyi3⟩) (by assumption) ?resti3
              case hyi3 =>
                intro w hSw
                (try dsimp only at hSw)
                go_simp
                (try with_reducible rfl)
              (try simp only [Act.put, List.setIfInBounds_toArray, List.set_cons_zero, List.set_cons_succ])
              refine wpAnyH_take (i := 3) (oi := { dst := some 33, op := Op.load 3 (Operand.tmp 32), type := 3, pos := "ref.go:28", after := #[{ on := 2, ground := Ground.data }], guard := none }) (v := ?vi4) rfl (by kernel_rfl) (by kernel_rfl) (by kernel_rfl) (fun _ _ _ h => h) (Or.inl ⟨by rfl, ?hyi4⟩) (by assumption) ?resti4
              case hyi4 =>
                intro w hSw
                (try dsimp only at hSw)
                go_simp
                (try with_reducible rfl)
              (try simp only [Act.put, List.setIfInBounds_toArray, List.set_cons_zero, List.set_cons_succ])
              refine wpAnyH_take (i := 4) (oi := { dst := some 34, op := Op.binOp BinOp.lss 3 (Operand.tmp 33) (Operand.const (Value.int IntKind.i64 1)) 3, type := 4, pos := "ref.go:28", after := #[{ on := 3, ground := Ground.data }], guard := none }) (v := ?vi5) rfl (by kernel_rfl) (by kernel_rfl) (by kernel_rfl) (fun _ _ _ h => h) (Or.inl ⟨by rfl, ?hyi5⟩) (by assumption) ?resti5
              case hyi5 =>
                intro w hSw
                (try dsimp only at hSw)
                go_simp
                (try with_reducible rfl)
              (try simp only [Act.put, List.setIfInBounds_toArray, List.set_cons_zero, List.set_cons_succ])
              refine wpAnyH_take (i := 5) (oi := { dst := some 35, op := Op.move (Operand.tmp 34), type := 4, pos := "ref.go:28", after := #[{ on := 4, ground := Ground.data }], guard := none }) (v := ?vi6) rfl (by kernel_rfl) (by kernel_rfl) (by kernel_rfl) (fun _ _ _ h => h) (Or.inl ⟨by rfl, ?hyi6⟩) (by assumption) ?resti6
              case hyi6 =>
                intro w hSw
                (try dsimp only at hSw)
                go_simp
                (try with_reducible rfl)
              (try simp only [Act.put, List.setIfInBounds_toArray, List.set_cons_zero, List.set_cons_succ])
              refine wpAnyH_take (i := 6) (oi := { dst := some 36, op := Op.move (Operand.tmp 0), type := 22, pos := "ref.go:28", after := #[{ on := 5, ground := Ground.guard }], guard := some (5, false) }) (v := ?vi7) rfl (by kernel_rfl) (by kernel_rfl) (by kernel_rfl) (fun _ _ _ h => h) (Or.inl ⟨by rfl, ?hyi7⟩) (by assumption) ?resti7
              case hyi7 =>
                intro w hSw
                (try dsimp only at hSw)
                go_simp
                (try with_reducible rfl)
              (try simp only [Act.put, List.setIfInBounds_toArray, List.set_cons_zero, List.set_cons_succ])
              refine wpAnyH_take (i := 7) (oi := { dst := some 37, op := Op.move (Operand.tmp 5), type := 3, pos := "ref.go:28", after := #[{ on := 5, ground := Ground.guard }], guard := some (5, false) }) (v := ?vi8) rfl (by kernel_rfl) (by kernel_rfl) (by kernel_rfl) (fun _ _ _ h => h) (Or.inl ⟨by rfl, ?hyi8⟩) (by assumption) ?resti8
              case hyi8 =>
                intro w hSw
                (try dsimp only at hSw)
                go_simp
                (try with_reducible rfl)
              (try simp only [Act.put, List.setIfInBounds_toArray, List.set_cons_zero, List.set_cons_succ])
              refine wpAnyH_take (i := 8) (oi := { dst := some 38, op := Op.indexAddr 22 (Operand.tmp 36) (Operand.tmp 37), type := 0, pos := "ref.go:28", after := #[{ on := 6, ground := Ground.data }, { on := 7, ground := Ground.data }, { on := 5, ground := Ground.guard }], guard := some (5, false) }) (v := ?vi9) rfl (by kernel_rfl) (by kernel_rfl) (by kernel_rfl) (fun _ _ _ h => h) (Or.inl ⟨by rfl, ?hyi9⟩) (by assumption) ?resti9
              case hyi9 =>
                intro w hSw
                (try dsimp only at hSw)
                go_simp
                (try with_reducible rfl)
              (try simp only [Act.put, List.setIfInBounds_toArray, List.set_cons_zero, List.set_cons_succ])
              refine wpAnyH_take (i := 9) (oi := { dst := some 39, op := Op.load 3 (Operand.tmp 38), type := 3, pos := "ref.go:28", after := #[{ on := 8, ground := Ground.data }, { on := 5, ground := Ground.guard }], guard := some (5, false) }) (v := ?vi10) rfl (by kernel_rfl) (by kernel_rfl) (by kernel_rfl) (fun _ _ _ h => h) (Or.inl ⟨by rfl, ?hyi10⟩) (by assumption) ?resti10
              case hyi10 =>
                intro w hSw
                (try dsimp only at hSw)
                go_simp
                (try with_reducible rfl)
              (try simp only [Act.put, List.setIfInBounds_toArray, List.set_cons_zero, List.set_cons_succ])
              refine wpAnyH_take (i := 10) (oi := { dst := some 40, op := Op.binOp BinOp.gtr 3 (Operand.tmp 39) (Operand.const (Value.int IntKind.i64 8)) 3, type := 4, pos := "ref.go:28", after := #[{ on := 9, ground := Ground.data }, { on := 5, ground := Ground.guard }], guard := some (5, false) }) (v := ?vi11) rfl (by kernel_rfl) (by kernel_rfl) (by kernel_rfl) (fun _ _ _ h => h) (Or.inl ⟨by rfl, ?hyi11⟩) (by assumption) ?resti11
              case hyi11 =>
                intro w hSw
                (try dsimp only at hSw)
                go_simp
                (try with_reducible rfl)
              (try simp only [Act.put, List.setIfInBounds_toArray, List.set_cons_zero, List.set_cons_succ])
              refine wpAnyH_take (i := 11) (oi := { dst := some 41, op := Op.pick (Operand.tmp 35) (Operand.const (Value.bool true)) (Operand.tmp 40), type := 4, pos := "ref.go:28", after := #[{ on := 5, ground := Ground.data }, { on := 10, ground := Ground.data }], guard := none }) (v := ?vi12) rfl (by kernel_rfl) (by kernel_rfl) (by kernel_rfl) (fun _ _ _ h => h) (Or.inl ⟨by rfl, ?hyi12⟩) (by assumption) ?resti12
              case hyi12 =>
                intro w hSw
                (try dsimp only at hSw)
                go_simp
                (try with_reducible rfl)
              (try simp only [Act.put, List.setIfInBounds_toArray, List.set_cons_zero, List.set_cons_succ])
              refine wpAnyH_take (i := 12) (oi := { dst := some 42, op := Op.move (Operand.tmp 41), type := 4, pos := "ref.go:28", after := #[{ on := 11, ground := Ground.data }, { on := 5, ground := Ground.chain }], guard := none }) (v := ?vi13) rfl (by kernel_rfl) (by kernel_rfl) (by kernel_rfl) (fun _ _ _ h => h) (Or.inl ⟨by rfl, ?hyi13⟩) (by assumption) ?resti13
              case hyi13 =>
                intro w hSw
                (try dsimp only at hSw)
                go_simp
                (try with_reducible rfl)
              (try simp only [Act.put, List.setIfInBounds_toArray, List.set_cons_zero, List.set_cons_succ])
              refine wpAnyH_take (i := 13) (oi := { dst := some 43, op := Op.move (Operand.tmp 0), type := 22, pos := "ref.go:28", after := #[{ on := 12, ground := Ground.guard }], guard := some (12, false) }) (v := ?vi14) rfl (by kernel_rfl) (by kernel_rfl) (by kernel_rfl) (fun _ _ _ h => h) (Or.inl ⟨by rfl, ?hyi14⟩) (by assumption) ?resti14
              case hyi14 =>
                intro w hSw
                (try dsimp only at hSw)
                go_simp
                (try with_reducible rfl)
              (try simp only [Act.put, List.setIfInBounds_toArray, List.set_cons_zero, List.set_cons_succ])
              refine wpAnyH_take (i := 14) (oi := { dst := some 44, op := Op.move (Operand.tmp 5), type := 3, pos := "ref.go:28", after := #[{ on := 12, ground := Ground.guard }], guard := some (12, false) }) (v := ?vi15) rfl (by kernel_rfl) (by kernel_rfl) (by kernel_rfl) (fun _ _ _ h => h) (Or.inl ⟨by rfl, ?hyi15⟩) (by assumption) ?resti15
              case hyi15 =>
                intro w hSw
                (try dsimp only at hSw)
                go_simp
                (try with_reducible rfl)
              (try simp only [Act.put, List.setIfInBounds_toArray, List.set_cons_zero, List.set_cons_succ])
              refine wpAnyH_take (i := 15) (oi := { dst := some 45, op := Op.slice 22 (Operand.tmp 43) none (some (Operand.tmp 44)) none, type := 22, pos := "ref.go:28", after := #[{ on := 13, ground := Ground.data }, { on := 14, ground := Ground.data }, { on := 12, ground := Ground.guard }], guard := some (12, false) }) (v := ?vi16) rfl (by kernel_rfl) (by kernel_rfl) (by kernel_rfl) (fun _ _ _ h => h) (Or.inl ⟨by rfl, ?hyi16⟩) (by assumption) ?resti16
              case hyi16 =>
                intro w hSw
                (try dsimp only at hSw)
                go_simp
                (try with_reducible rfl)
              (try simp only [Act.put, List.setIfInBounds_toArray, List.set_cons_zero, List.set_cons_succ])
              refine wpAnyH_take (i := 16) (oi := { dst := some 46, op := Op.move (Operand.tmp 0), type := 22, pos := "ref.go:28", after := #[{ on := 12, ground := Ground.guard }], guard := some (12, false) }) (v := ?vi17) rfl (by kernel_rfl) (by kernel_rfl) (by kernel_rfl) (fun _ _ _ h => h) (Or.inl ⟨by rfl, ?hyi17⟩) (by assumption) ?resti17
              case hyi17 =>
                intro w hSw
                (try dsimp only at hSw)
                go_simp
                (try with_reducible rfl)
              (try simp only [Act.put, List.setIfInBounds_toArray, List.set_cons_zero, List.set_cons_succ])
              refine wpAnyH_take (i := 17) (oi := { dst := some 47, op := Op.move (Operand.tmp 5), type := 3, pos := "ref.go:28", after := #[{ on := 12, ground := Ground.guard }], guard := some (12, false) }) (v := ?vi18) rfl (by kernel_rfl) (by kernel_rfl) (by kernel_rfl) (fun _ _ _ h => h) (Or.inl ⟨by rfl, ?hyi18⟩) (by assumption) ?resti18
              case hyi18 =>
                intro w hSw
                (try dsimp only at hSw)
                go_simp
                (try with_reducible rfl)
              (try simp only [Act.put, List.setIfInBounds_toArray, List.set_cons_zero, List.set_cons_succ])
              refine wpAnyH_take (i := 18) (oi := { dst := some 48, op := Op.indexAddr 22 (Operand.tmp 46) (Operand.tmp 47), type := 0, pos := "ref.go:28", after := #[{ on := 16, ground := Ground.data }, { on := 17, ground := Ground.data }, { on := 12, ground := Ground.guard }], guard := some (12, false) }) (v := ?vi19) rfl (by kernel_rfl) (by kernel_rfl) (by kernel_rfl) (fun _ _ _ h => h) (Or.inl ⟨by rfl, ?hyi19⟩) (by assumption) ?resti19
              case hyi19 =>
                intro w hSw
                (try dsimp only at hSw)
                go_simp
                (try with_reducible rfl)
              (try simp only [Act.put, List.setIfInBounds_toArray, List.set_cons_zero, List.set_cons_succ])
              refine wpAnyH_take (i := 19) (oi := { dst := some 49, op := Op.load 3 (Operand.tmp 48), type := 3, pos := "ref.go:28", after := #[{ on := 18, ground := Ground.data }, { on := 12, ground := Ground.guard }], guard := some (12, false) }) (v := ?vi20) rfl (by kernel_rfl) (by kernel_rfl) (by kernel_rfl) (fun _ _ _ h => h) (Or.inl ⟨by rfl, ?hyi20⟩) (by assumption) ?resti20
              case hyi20 =>
                intro w hSw
                (try dsimp only at hSw)
                go_simp
                (try with_reducible rfl)
              (try simp only [Act.put, List.setIfInBounds_toArray, List.set_cons_zero, List.set_cons_succ])
              refine wpAnyH_ready (rs := [20]) (by kernel_rfl) (by simp) ?_
              refine AllReadyH.cons (o := { dst := some 50, op := Op.call { callee := Callee.value (Operand.func 34), args := #[Operand.tmp 45, Operand.tmp 49], argTypes := #[22, 3] }, type := 4, pos := "ref.go:28", after := #[{ on := 15, ground := Ground.data }, { on := 19, ground := Ground.data }, { on := 12, ground := Ground.chain }, { on := 12, ground := Ground.guard }], guard := some (12, false) }) rfl (fun K hK => ?_) AllReadyH.nil
              go_simp
              (go_at_call 34; refine HIN.out.mono ?_; rintro e w2 ⟨rfl, b2⟩)
              go_wp2_with fail
              refine hK.out _ _ (HS.out _ (hwd.trans (b2.mono hwd.size))) (fun hHeld => ?_)
              clear hK K
              (try simp only [Act.put, List.setIfInBounds_toArray, List.set_cons_zero, List.set_cons_succ])
              refine wpAnyH_take (i := 21) (oi := { dst := some 51, op := Op.pick (Operand.tmp 42) (Operand.const (Value.bool true)) (Operand.tmp 50), type := 4, pos := "ref.go:28", after := #[{ on := 12, ground := Ground.data }, { on := 20, ground := Ground.data }], guard := none }) (v := ?vi21) rfl (by kernel_rfl) (by kernel_rfl) (by kernel_rfl) (fun _ _ _ h => h) (Or.inl ⟨by rfl, ?hyi21⟩) (by assumption) ?resti21
              case hyi21 =>
                intro w hSw
                (try dsimp only at hSw)
                go_simp
                (try with_reducible rfl)
              (try simp only [Act.put, List.setIfInBounds_toArray, List.set_cons_zero, List.set_cons_succ])
              refine wpAnyH_done (by kernel_rfl) ?_ _
              have HE := Lib.hid (hst.out.1.trans ((hwd.trans (b2.mono hwd.size)).mono hst.out.1.size))
              clear b2 hst
              go_wp2_with fail
              go_ret
              exact ⟨by rw [HNO.out]; rfl, HE.out⟩

            · have HG : Hid (Good ls (k + 1)) := Lib.hid (good_step hst.out.2 HX.out (by omega) hin)
              rw [decide_eq_false hin] at HIN
              clear hin
              go_wp2_with fail
              refine wp_region_held_drew (S := fun V => V.cell? ⟨ob, oo + k, none⟩ = some (.int .i64 x)) (by kernel_rfl) (HS.out _ hwd) (fun hHeld => ?_)
              refine wpAnyH_take (i := 0) (oi := { dst := some 30, op := Op.move (Operand.tmp 0), type := 22, pos := "ref.go:28", after := #[], guard := none }) (v := ?vo1) rfl (by kernel_rfl) (by kernel_rfl) (by kernel_rfl) (fun _ _ _ h => h) (Or.inl ⟨by rfl, ?hyo1⟩) (by assumption) ?resto1
              case hyo1 =>
                intro w hSw
                (try dsimp only at hSw)
                go_simp
                (try with_reducible rfl)
              (try simp only [Act.put, List.setIfInBounds_toArray, List.set_cons_zero, List.set_cons_succ])
              refine wpAnyH_take (i := 1) (oi := { dst := some 31, op := Op.move (Operand.tmp 5), type := 3, pos := "ref.go:28", after := #[], guard := none }) (v := ?vo2) rfl (by kernel_rfl) (by kernel_rfl) (by kernel_rfl) (fun _ _ _ h => h) (Or.inl ⟨by rfl, ?hyo2⟩) (by assumption) ?resto2
              case hyo2 =>
                intro w hSw
                (try dsimp only at hSw)
                go_simp
                (try with_reducible rfl)
              (try simp only [Act.put, List.setIfInBounds_toArray, List.set_cons_zero, List.set_cons_succ])
              refine wpAnyH_take (i := 2) (oi := { dst := some 32, op := Op.indexAddr 22 (Operand.tmp 30) (Operand.tmp 31), type := 0, pos := "ref.go:28", after := #[{ on := 0, ground := Ground.data }, { on := 1, ground := Ground.data }], guard := none }) (v := ?vo3) rfl (by kernel_rfl) (by kernel_rfl) (by kernel_rfl) (fun _ _ _ h => h) (Or.inl ⟨by rfl, ?hyo3⟩) (by assumption) ?resto3
              case hyo3 =>
                intro w hSw
                (try dsimp only at hSw)
                go_simp
                (try with_reducible rfl)
              (try simp only [Act.put, List.setIfInBounds_toArray, List.set_cons_zero, List.set_cons_succ])
              refine wpAnyH_take (i := 3) (oi := { dst := some 33, op := Op.load 3 (Operand.tmp 32), type := 3, pos := "ref.go:28", after := #[{ on := 2, ground := Ground.data }], guard := none }) (v := ?vo4) rfl (by kernel_rfl) (by kernel_rfl) (by kernel_rfl) (fun _ _ _ h => h) (Or.inl ⟨by rfl, ?hyo4⟩) (by assumption) ?resto4
              case hyo4 =>
                intro w hSw
                (try dsimp only at hSw)
                go_simp
                (try with_reducible rfl)
              (try simp only [Act.put, List.setIfInBounds_toArray, List.set_cons_zero, List.set_cons_succ])
              refine wpAnyH_take (i := 4) (oi := { dst := some 34, op := Op.binOp BinOp.lss 3 (Operand.tmp 33) (Operand.const (Value.int IntKind.i64 1)) 3, type := 4, pos := "ref.go:28", after := #[{ on := 3, ground := Ground.data }], guard := none }) (v := ?vo5) rfl (by kernel_rfl) (by kernel_rfl) (by kernel_rfl) (fun _ _ _ h => h) (Or.inl ⟨by rfl, ?hyo5⟩) (by assumption) ?resto5
              case hyo5 =>
                intro w hSw
                (try dsimp only at hSw)
                go_simp
                (try with_reducible rfl)
              (try simp only [Act.put, List.setIfInBounds_toArray, List.set_cons_zero, List.set_cons_succ])
              refine wpAnyH_take (i := 5) (oi := { dst := some 35, op := Op.move (Operand.tmp 34), type := 4, pos := "ref.go:28", after := #[{ on := 4, ground := Ground.data }], guard := none }) (v := ?vo6) rfl (by kernel_rfl) (by kernel_rfl) (by kernel_rfl) (fun _ _ _ h => h) (Or.inl ⟨by rfl, ?hyo6⟩) (by assumption) ?resto6
              case hyo6 =>
                intro w hSw
                (try dsimp only at hSw)
                go_simp
                (try with_reducible rfl)
              (try simp only [Act.put, List.setIfInBounds_toArray, List.set_cons_zero, List.set_cons_succ])
              refine wpAnyH_take (i := 6) (oi := { dst := some 36, op := Op.move (Operand.tmp 0), type := 22, pos := "ref.go:28", after := #[{ on := 5, ground := Ground.guard }], guard := some (5, false) }) (v := ?vo7) rfl (by kernel_rfl) (by kernel_rfl) (by kernel_rfl) (fun _ _ _ h => h) (Or.inl ⟨by rfl, ?hyo7⟩) (by assumption) ?resto7
              case hyo7 =>
                intro w hSw
                (try dsimp only at hSw)
                go_simp
                (try with_reducible rfl)
              (try simp only [Act.put, List.setIfInBounds_toArray, List.set_cons_zero, List.set_cons_succ])
              refine wpAnyH_take (i := 7) (oi := { dst := some 37, op := Op.move (Operand.tmp 5), type := 3, pos := "ref.go:28", after := #[{ on := 5, ground := Ground.guard }], guard := some (5, false) }) (v := ?vo8) rfl (by kernel_rfl) (by kernel_rfl) (by kernel_rfl) (fun _ _ _ h => h) (Or.inl ⟨by rfl, ?hyo8⟩) (by assumption) ?resto8
              case hyo8 =>
                intro w hSw
                (try dsimp only at hSw)
                go_simp
                (try with_reducible rfl)
              (try simp only [Act.put, List.setIfInBounds_toArray, List.set_cons_zero, List.set_cons_succ])
              refine wpAnyH_take (i := 8) (oi := { dst := some 38, op := Op.indexAddr 22 (Operand.tmp 36) (Operand.tmp 37), type := 0, pos := "ref.go:28", after := #[{ on := 6, ground := Ground.data }, { on := 7, ground := Ground.data }, { on := 5, ground := Ground.guard }], guard := some (5, false) }) (v := ?vo9) rfl (by kernel_rfl) (by kernel_rfl) (by kernel_rfl) (fun _ _ _ h => h) (Or.inl ⟨by rfl, ?hyo9⟩) (by assumption) ?resto9
              case hyo9 =>
                intro w hSw
                (try dsimp only at hSw)
                go_simp
                (try with_reducible rfl)
              (try simp only [Act.put, List.setIfInBounds_toArray, List.set_cons_zero, List.set_cons_succ])
              refine wpAnyH_take (i := 9) (oi := { dst := some 39, op := Op.load 3 (Operand.tmp 38), type := 3, pos := "ref.go:28", after := #[{ on := 8, ground := Ground.data }, { on := 5, ground := Ground.guard }], guard := some (5, false) }) (v := ?vo10) rfl (by kernel_rfl) (by kernel_rfl) (by kernel_rfl) (fun _ _ _ h => h) (Or.inl ⟨by rfl, ?hyo10⟩) (by assumption) ?resto10
              case hyo10 =>
                intro w hSw
                (try dsimp only at hSw)
                go_simp
                (try with_reducible rfl)
              (try simp only [Act.put, List.setIfInBounds_toArray, List.set_cons_zero, List.set_cons_succ])
              refine wpAnyH_take (i := 10) (oi := { dst := some 40, op := Op.binOp BinOp.gtr 3 (Operand.tmp 39) (Operand.const (Value.int IntKind.i64 8)) 3, type := 4, pos := "ref.go:28", after := #[{ on := 9, ground := Ground.data }, { on := 5, ground := Ground.guard }], guard := some (5, false) }) (v := ?vo11) rfl (by kernel_rfl) (by kernel_rfl) (by kernel_rfl) (fun _ _ _ h => h) (Or.inl ⟨by rfl, ?hyo11⟩) (by assumption) ?resto11
              case hyo11 =>
                intro w hSw
                (try dsimp only at hSw)
                go_simp
                (try with_reducible rfl)
              (try simp only [Act.put, List.setIfInBounds_toArray, List.set_cons_zero, List.set_cons_succ])
              refine wpAnyH_take (i := 11) (oi := { dst := some 41, op := Op.pick (Operand.tmp 35) (Operand.const (Value.bool true)) (Operand.tmp 40), type := 4, pos := "ref.go:28", after := #[{ on := 5, ground := Ground.data }, { on := 10, ground := Ground.data }], guard := none }) (v := ?vo12) rfl (by kernel_rfl) (by kernel_rfl) (by kernel_rfl) (fun _ _ _ h => h) (Or.inl ⟨by rfl, ?hyo12⟩) (by assumption) ?resto12
              case hyo12 =>
                intro w hSw
                (try dsimp only at hSw)
                go_simp
                (try with_reducible rfl)
              (try simp only [Act.put, List.setIfInBounds_toArray, List.set_cons_zero, List.set_cons_succ])
              refine wpAnyH_take (i := 12) (oi := { dst := some 42, op := Op.move (Operand.tmp 41), type := 4, pos := "ref.go:28", after := #[{ on := 11, ground := Ground.data }, { on := 5, ground := Ground.chain }], guard := none }) (v := ?vo13) rfl (by kernel_rfl) (by kernel_rfl) (by kernel_rfl) (fun _ _ _ h => h) (Or.inl ⟨by rfl, ?hyo13⟩) (by assumption) ?resto13
              case hyo13 =>
                intro w hSw
                (try dsimp only at hSw)
                go_simp
                (try with_reducible rfl)
              (try simp only [Act.put, List.setIfInBounds_toArray, List.set_cons_zero, List.set_cons_succ])
              refine wpAnyH_take (i := 13) (oi := { dst := some 43, op := Op.move (Operand.tmp 0), type := 22, pos := "ref.go:28", after := #[{ on := 12, ground := Ground.guard }], guard := some (12, false) }) (v := ?vo14) rfl (by kernel_rfl) (by kernel_rfl) (by kernel_rfl) (fun _ _ _ h => h) (Or.inl ⟨by rfl, ?hyo14⟩) (by assumption) ?resto14
              case hyo14 =>
                intro w hSw
                (try dsimp only at hSw)
                go_simp
                (try with_reducible rfl)
              (try simp only [Act.put, List.setIfInBounds_toArray, List.set_cons_zero, List.set_cons_succ])
              refine wpAnyH_take (i := 14) (oi := { dst := some 44, op := Op.move (Operand.tmp 5), type := 3, pos := "ref.go:28", after := #[{ on := 12, ground := Ground.guard }], guard := some (12, false) }) (v := ?vo15) rfl (by kernel_rfl) (by kernel_rfl) (by kernel_rfl) (fun _ _ _ h => h) (Or.inl ⟨by rfl, ?hyo15⟩) (by assumption) ?resto15
              case hyo15 =>
                intro w hSw
                (try dsimp only at hSw)
                go_simp
                (try with_reducible rfl)
              (try simp only [Act.put, List.setIfInBounds_toArray, List.set_cons_zero, List.set_cons_succ])
              refine wpAnyH_take (i := 15) (oi := { dst := some 45, op := Op.slice 22 (Operand.tmp 43) none (some (Operand.tmp 44)) none, type := 22, pos := "ref.go:28", after := #[{ on := 13, ground := Ground.data }, { on := 14, ground := Ground.data }, { on := 12, ground := Ground.guard }], guard := some (12, false) }) (v := ?vo16) rfl (by kernel_rfl) (by kernel_rfl) (by kernel_rfl) (fun _ _ _ h => h) (Or.inl ⟨by rfl, ?hyo16⟩) (by assumption) ?resto16
              case hyo16 =>
                intro w hSw
                (try dsimp only at hSw)
                go_simp
                (try with_reducible rfl)
              (try simp only [Act.put, List.setIfInBounds_toArray, List.set_cons_zero, List.set_cons_succ])
              refine wpAnyH_take (i := 16) (oi := { dst := some 46, op := Op.move (Operand.tmp 0), type := 22, pos := "ref.go:28", after := #[{ on := 12, ground := Ground.guard }], guard := some (12, false) }) (v := ?vo17) rfl (by kernel_rfl) (by kernel_rfl) (by kernel_rfl) (fun _ _ _ h => h) (Or.inl ⟨by rfl, ?hyo17⟩) (by assumption) ?resto17
              case hyo17 =>
                intro w hSw
                (try dsimp only at hSw)
                go_simp
                (try with_reducible rfl)
              (try simp only [Act.put, List.setIfInBounds_toArray, List.set_cons_zero, List.set_cons_succ])
              refine wpAnyH_take (i := 17) (oi := { dst := some 47, op := Op.move (Operand.tmp 5), type := 3, pos := "ref.go:28", after := #[{ on := 12, ground := Ground.guard }], guard := some (12, false) }) (v := ?vo18) rfl (by kernel_rfl) (by kernel_rfl) (by kernel_rfl) (fun _ _ _ h => h) (Or.inl ⟨by rfl, ?hyo18⟩) (by assumption) ?resto18
              case hyo18 =>
                intro w hSw
                (try dsimp only at hSw)
                go_simp
                (try with_reducible rfl)
              (try simp only [Act.put, List.setIfInBounds_toArray, List.set_cons_zero, List.set_cons_succ])
              refine wpAnyH_take (i := 18) (oi := { dst := some 48, op := Op.indexAddr 22 (Operand.tmp 46) (Operand.tmp 47), type := 0, pos := "ref.go:28", after := #[{ on := 16, ground := Ground.data }, { on := 17, ground := Ground.data }, { on := 12, ground := Ground.guard }], guard := some (12, false) }) (v := ?vo19) rfl (by kernel_rfl) (by kernel_rfl) (by kernel_rfl) (fun _ _ _ h => h) (Or.inl ⟨by rfl, ?hyo19⟩) (by assumption) ?resto19
              case hyo19 =>
                intro w hSw
                (try dsimp only at hSw)
                go_simp
                (try with_reducible rfl)
              (try simp only [Act.put, List.setIfInBounds_toArray, List.set_cons_zero, List.set_cons_succ])
              refine wpAnyH_take (i := 19) (oi := { dst := some 49, op := Op.load 3 (Operand.tmp 48), type := 3, pos := "ref.go:28", after := #[{ on := 18, ground := Ground.data }, { on := 12, ground := Ground.guard }], guard := some (12, false) }) (v := ?vo20) rfl (by kernel_rfl) (by kernel_rfl) (by kernel_rfl) (fun _ _ _ h => h) (Or.inl ⟨by rfl, ?hyo20⟩) (by assumption) ?resto20
              case hyo20 =>
                intro w hSw
                (try dsimp only at hSw)
                go_simp
                (try with_reducible rfl)
              (try simp only [Act.put, List.setIfInBounds_toArray, List.set_cons_zero, List.set_cons_succ])
              refine wpAnyH_ready (rs := [20]) (by kernel_rfl) (by simp) ?_
              refine AllReadyH.cons (o := { dst := some 50, op := Op.call { callee := Callee.value (Operand.func 34), args := #[Operand.tmp 45, Operand.tmp 49], argTypes := #[22, 3] }, type := 4, pos := "ref.go:28", after := #[{ on := 15, ground := Ground.data }, { on := 19, ground := Ground.data }, { on := 12, ground := Ground.chain }, { on := 12, ground := Ground.guard }], guard := some (12, false) }) rfl (fun K hK => ?_) AllReadyH.nil
              go_simp
              (go_at_call 34; refine HIN.out.mono ?_; rintro e w2 ⟨rfl, b2⟩)
              go_wp2_with fail
              refine hK.out _ _ (HS.out _ (hwd.trans (b2.mono hwd.size))) (fun hHeld => ?_)
              clear hK K
              (try simp only [Act.put, List.setIfInBounds_toArray, List.set_cons_zero, List.set_cons_succ])
              refine wpAnyH_take (i := 21) (oi := { dst := some 51, op := Op.pick (Operand.tmp 42) (Operand.const (Value.bool true)) (Operand.tmp 50), type := 4, pos := "ref.go:28", after := #[{ on := 12, ground := Ground.data }, { on := 20, ground := Ground.data }], guard := none }) (v := ?vo21) rfl (by kernel_rfl) (by kernel_rfl) (by kernel_rfl) (fun _ _ _ h => h) (Or.inl ⟨by rfl, ?hyo21⟩) (by assumption) ?resto21
              case hyo21 =>
                intro w hSw
                (try dsimp only at hSw)
                go_simp
                (try with_reducible rfl)
              (try simp only [Act.put, List.setIfInBounds_toArray, List.set_cons_zero, List.set_cons_succ])
              refine wpAnyH_done (by kernel_rfl) ?_ _
              have HN : Hid (Below w.heap.size w w2 ∧ Good ls (k + 1)) := Lib.hid ⟨hst.out.1.trans ((hwd.trans (b2.mono hwd.size)).mono hst.out.1.size), HG.out⟩
              clear b2 hst
              go_wp2_with fail
              go_roundw
              case rel => exact ⟨k + 1, rfl, by omega, HN⟩
              case measure => simp only [intOf]; omega

      · have hkn : k = n := by omega
        subst hkn
        have HF : Hid (R = true) := Lib.hid (by rw [← HV.out.2.2]; exact decide_eq_true (good_all (by have := HV.out.2.1; omega) (by rw [HV.out.2.1]; exact hst.out.2)))
        have HE := Lib.hid hst.out.1
        clear hst
        go_wp2_with fail
        go_ret
        exact ⟨by rw [HF.out]; rfl, HE.out⟩
  · have HF : Hid (R = false) := Lib.hid (by rw [← HV.out.2.2]; exact decide_eq_false fun ho => hb (by have := ho.1; have := HV.out.2.1; omega))
    by_cases h0 : n = 0
    · subst h0
      clear hb
      go_enter Try.func9, Try.ntmps9
      go_wp2_with fail
      go_ret
      exact ⟨by rw [HF.out]; rfl, Below.refl _ _⟩
    · have g0' : ((n : Int) == 0) = false := by simp; omega
      by_cases h1 : (8 : Int) < (n : Int)
      · go_enter Try.func9, Try.ntmps9
        go_wp2_with fail
        go_ret
        exact ⟨by rw [HF.out]; rfl, Below.refl _ _⟩
      · by_cases h2 : need < 1
        · go_enter Try.func9, Try.ntmps9
          go_wp2_with fail
          go_ret
          exact ⟨by rw [HF.out]; rfl, Below.refl _ _⟩
        · have h3 : (n : Int) < need := by omega
          clear hb
          go_enter Try.func9, Try.ntmps9
          go_wp2_with fail
          go_ret
          exact ⟨by rw [HF.out]; rfl, Below.refl _ _⟩
end Quorum
end Go.Proofs.Ytbhidndgnldheaa

/-
  What comes of all, and who lacks something of it: the document's word.
-/
namespace Go.Proofs.Ytbhidndgnldheaa
namespace Quorum
open Go.RowKit Vers Span Blk
attribute [local go_sem ↓] Go.wp_at_zero Go.wp_at_succ

/-- The document takes all that lies there, counted or not. -/
def docF (l : List En) : List Vr := l.foldl (fun all e => mrg all e.2.2) []
theorem doc_snoc (l : List En) (e : En) : docF (l ++ [e]) = mrg (docF l) e.2.2 := by
  unfold docF
  rw [List.foldl_append]
  rfl
theorem doc_small (l : List En) : (docF l).length ≤ 1024 := by
  refine snoc_induct (P := fun l => (docF l).length ≤ 1024) (by simp [docF]) ?_ l
  intro l x h
  rw [doc_snoc]
  exact mrg_len h
/-- Versions that lie somewhere. -/
def GotA (all : List Vr) (w : World) (e : Ending) (w' : World) : Prop := ∃ A c, e = .returned (.slice A all.length c) ∧ Hid (all.length ≤ c ∧ Vs w' 0 w'.heap.size A all) ∧ Below w.heap.size w w'
set_option maxRecDepth 100000 in
set_option maxHeartbeats 1000000 in
theorem allA_any {T : TypeId} {F : Nat → Prop} {w : World} {rb n lb cl cb ab : Nat} {need : Int} {l : List En} {x : List Value} {ps : List Plc} (h : Core T F w rb need l n lb cl cb ab x) (ha : Ans F w l ps cb ab) :
    Calls Try.prog 25 #[hd rb] w (GotA (docF l) w) := by
  have hn8 : n ≤ 8 := h.1.2.2.2
  have hlen := h.len
  have HC : Hid (∀ V, Below w.heap.size w V → Core T F V rb need l n lb cl cb ab x ∧ Ans F V l ps cb ab) := Lib.hid fun V hV => ⟨h.below hV, ha.below hV⟩
  obtain ⟨x0, x1, x2, x3⟩ := h.head
  have HL := Lib.hid hlen
  clear h ha hlen
  go_enter Try.func25, Try.ntmps25
  go_wp2_with fail
  go_loopw [3, 4, 5, 6] (fun u q _ _ wr => ∃ (k m co : Nat) (Ao : Option Addr), q = .int .i64 k ∧ k ≤ n ∧ u = .slice Ao m co ∧ (docF (l.take k)).length = m ∧ m ≤ co ∧ Hid (Vs wr 0 wr.heap.size Ao (docF (l.take k)) ∧ Below w.heap.size w wr)) (fun _ q _ _ _ => n - (intOf q).toNat)
  case atStart => exact ⟨0, 0, 0, none, rfl, by omega, rfl, by simp [docF], by omega, Lib.hid ⟨by simpa [docF] using Vs.nil _, Below.refl _ _⟩⟩
  case round =>
    clear x0 x1 x2 x3
    obtain ⟨k, m, co, Ao, rfl, hk, rfl, hm, hmc, ho⟩ := hrel
    obtain ⟨hCw, hAw⟩ := HC.out wr ho.out.2
    obtain ⟨x0, x1, x2, x3⟩ := hCw.head
    by_cases hlt : k < n
    · obtain ⟨⟨nd, bo, an⟩, he⟩ : ∃ e, l[k]? = some e := ⟨l[k]'(by have := HL.out; omega), by simp⟩
      obtain ⟨p, hp, y2, hpc, hp4, hpv⟩ := hAw.at he
      simp only at y2 hpc hp4 hpv
      obtain ⟨Ap, cp⟩ := p
      simp only at y2 hpc hpv
      have HS := Lib.hid (doc_snoc (l.take k) (nd, bo, an))
      have HT := Lib.hid (take_one he)
      have hsm := doc_small (l.take k)
      obtain ⟨P, hP⟩ : ∃ P, docF (l.take k) = P := ⟨_, rfl⟩
      rw [hP] at hm ho hsm HS
      obtain ⟨M, hM⟩ : ∃ M, an.length = M := ⟨_, rfl⟩
      rw [hM] at y2 hpc hp4
      have d1 : (0 : Int) ≤ (k : Int) := by omega
      have d2 : (k : Int) < (n : Int) := by omega
      have HM := Lib.hid (ref_merge_any Ao Ap co cp m M P an hm hM wr ho.out.1 hpv (by omega) (by omega))
      obtain ⟨r1, r2, hr⟩ : ∃ r1 r2, mergeF P an = (r1, r2) := ⟨_, _, rfl⟩
      rw [hr] at HM
      have HMM := Lib.hid hm
      clear hm hP hM hpc hpv hp4 hp he hCw hAw hsm
      go_wp2_with fail
      refine HM.out.mono ?_
      rintro e1 w1 ⟨A', c', rfl, g1, g2, g3⟩
      have hb1 := ho.out.2.trans (g3.mono ho.out.2.size)
      cases hz : r2 == 0
      · have hmr : mrg P an = P := by unfold mrg; rw [hr, if_neg (fun h => by simp only at h; rw [h] at hz; cases hz)]
        have HN : Hid (Vs w1 0 w1.heap.size Ao (docF (l.take (k + 1))) ∧ Below w.heap.size w w1) := Lib.hid ⟨by rw [HT.out, HS.out, hmr]; exact (ho.out.1.below g3).more g3.size, hb1⟩
        have HK : (docF (l.take (k + 1))).length = m := by rw [HT.out, HS.out, hmr]; exact HMM.out
        clear g1 g2 g3 hb1 ho hr hmr HM
        go_wp2_with fail
        go_roundw
        case rel => exact ⟨k + 1, m, co, Ao, rfl, by omega, rfl, HK, hmc, HN⟩
        case measure => simp only [intOf]; omega
      · have hmr : mrg P an = r1 := by unfold mrg; rw [hr, if_pos (by simpa using hz)]
        have HN : Hid (Vs w1 0 w1.heap.size A' (docF (l.take (k + 1))) ∧ Below w.heap.size w w1) := Lib.hid ⟨by rw [HT.out, HS.out, hmr]; exact g2, hb1⟩
        obtain ⟨R, hR⟩ : ∃ R, r1.length = R := ⟨_, rfl⟩
        rw [hR] at g1
        have HK : (docF (l.take (k + 1))).length = R := by rw [HT.out, HS.out, hmr]; exact hR
        rw [hR]
        clear g2 g3 hb1 ho hr hmr HM hR
        go_wp2_with fail
        go_roundw
        case rel => exact ⟨k + 1, R, c', A', rfl, by omega, rfl, HK, g1, HN⟩
        case measure => simp only [intOf]; omega
    · obtain rfl : k = n := by omega
      have hlk : l.take k = l := List.take_of_length_le (by have := HL.out; omega)
      rw [hlk] at ho hm
      have HO := Lib.hid (And.intro ho.out hm)
      have HMC := Lib.hid hmc
      clear ho hm hlk hmc
      go_wp2_with fail
      go_ret
      exact ⟨Ao, co, by rw [HO.out.2]; rfl, Lib.hid ⟨by rw [HO.out.2]; exact HMC.out, HO.out.1.1⟩, HO.out.1.2⟩
set_option maxRecDepth 100000 in
set_option maxHeartbeats 1000000 in
theorem behindA_any {T : TypeId} {F : Nat → Prop} {w : World} {rb n lb cl cb ab : Nat} {need : Int} {l : List En} {x : List Value} {ps : List Plc} (h : Core T F w rb need l n lb cl cb ab x) (ha : Ans F w l ps cb ab) :
    Calls Try.prog 27 #[hd rb] w (NewI (behindF l (docF l)) w) := by
  obtain ⟨i0, hi0, hz0, hz1, hz2⟩ := info_parts info_int
  have HI := Lib.hid (And.intro hi0 (And.intro hz0 (And.intro hz1 hz2)))
  have hn8 : n ≤ 8 := h.1.2.2.2
  have HC : Hid (∀ V, Below w.heap.size w V → Core T F V rb need l n lb cl cb ab x ∧ Ans F V l ps cb ab) := Lib.hid fun V hV => ⟨h.below hV, ha.below hV⟩
  have hall := allA_any h ha
  have hsm := doc_small l
  obtain ⟨all, hD⟩ : ∃ D, docF l = D := ⟨_, rfl⟩
  obtain ⟨N, hN⟩ : ∃ N, all.length = N := ⟨_, rfl⟩
  rw [hD] at hall hsm ⊢
  unfold GotA at hall
  rw [hN] at hall hsm
  have HALL := Lib.hid hall
  have HNN := Lib.hid hN
  have HL := Lib.hid h.len
  clear h ha hi0 hz0 hz1 hz2 hall hD hN
  go_enter Try.func27, Try.ntmps27
  go_wp2_with fail
  refine HALL.out.mono ?_
  rintro e0 w1 ⟨A, c, rfl, hv, hb1⟩
  obtain ⟨x0, x1, x2, x3⟩ := (HC.out w1 hb1).1.head
  have HB1 := Lib.hid hb1
  have hs1 := hb1.size
  clear hb1
  go_wp2_with fail
  go_loopw [4, 5] (fun u q wr => ∃ (k m co : Nat) (Ao : Option Addr), q = .int .i64 k ∧ k ≤ n ∧ u = .slice Ao m co ∧ m ≤ k ∧ (behindF (l.take k) all).length = m ∧ Hid (wr.ownsRow w1.heap.size 3 1 (.slice Ao m co) m (nums .i64 (behindF (l.take k) all))) ∧ Hid (Below w1.heap.size w1 wr)) (fun _ q _ => n - (intOf q).toNat)
  case atStart => exact ⟨0, 0, 0, none, rfl, by omega, rfl, by omega, by simp [behindF], Lib.hid (World.ownsRow_nil _ _ _ _), Lib.hid (Below.refl _ _)⟩
  case round =>
    clear x0 x1 x2 x3
    obtain ⟨k, m, co, Ao, rfl, hk, rfl, hmk, hm, ho, hb⟩ := hrel
    have hbw := HB1.out.trans (hb.out.mono hs1)
    obtain ⟨hCw, hAw⟩ := HC.out wr hbw
    obtain ⟨x0, x1, x2, x3⟩ := hCw.head
    by_cases hlt : k < n
    · obtain ⟨⟨nd, bo, an⟩, he⟩ : ∃ e, l[k]? = some e := ⟨l[k]'(by have := HL.out; omega), by simp⟩
      obtain ⟨y0, y1⟩ := hCw.at he
      obtain ⟨⟨Ap, cp⟩, hp, y2, hpc, hp4, hpv⟩ := hAw.at he
      simp only at y0 y1 y2 hpc hp4 hpv
      have HT := Lib.hid (behind_snoc (l.take k) (nd, bo, an) all)
      have HT2 := Lib.hid (take_one he)
      have d1 : (0 : Int) ≤ (k : Int) := by omega
      have d2 : (k : Int) < (n : Int) := by omega
      obtain ⟨M, hM⟩ : ∃ M, an.length = M := ⟨_, rfl⟩
      rw [hM] at y2 hpc hp4
      obtain ⟨D, hD⟩ : ∃ D, lacksF an all = D := ⟨_, rfl⟩
      have hlk := ref_lacks_any Ap A cp c M N an all hM HNN.out hpc hv.out.1 wr hpv (((hv.out.2.below hb.out)).more hb.out.size) (by omega) (by omega)
      rw [hD] at hlk
      have HLK := Lib.hid hlk
      have HD := Lib.hid hD
      have HAT : Hid (∀ V, Below w.heap.size w V → V.cell? ⟨lb, k, none⟩ = some (.int .i64 nd) ∧ V.cell? ⟨rb, 0, none⟩ = some (.slice (some ⟨lb, 0, none⟩) n cl)) := Lib.hid fun V hV => ⟨((HC.out V hV).1.at he).1, (HC.out V hV).1.head.1⟩
      have HBW := Lib.hid hbw
      clear hM hlk hD hpc hp4 hpv hp he hCw hAw hbw
      cases bo
      · have HN : Hid (wr.ownsRow w1.heap.size 3 1 (.slice Ao m co) m (nums .i64 (behindF (l.take (k + 1)) all))) := Lib.hid (by
          rw [HT2.out, HT.out]
          simpa using ho.out)
        have HM : (behindF (l.take (k + 1)) all).length = m := by
          rw [HT2.out, HT.out]
          simpa using hm
        clear ho hm HLK
        go_wp2_with fail
        go_roundw
        case rel => exact ⟨k + 1, m, co, Ao, rfl, by omega, rfl, by omega, HM, HN, hb⟩
        case measure => simp only [intOf]; omega
      · cases D
        · have HM : (behindF (l.take (k + 1)) all).length = m := by
            rw [HT2.out, HT.out]
            simpa [HD.out] using hm
          clear hm
          go_wp2_with fail
          refine HLK.out.mono ?_
          rintro e1 w2 ⟨rfl, b2⟩
          have HN : Hid (w2.ownsRow w1.heap.size 3 1 (.slice Ao m co) m (nums .i64 (behindF (l.take (k + 1)) all))) := Lib.hid (by
            rw [HT2.out, HT.out]
            simpa [HD.out] using own_below ho.out b2 (Nat.le_refl _))
          have HB : Hid (Below w1.heap.size w1 w2) := Lib.hid (hb.out.trans (b2.mono hb.out.size))
          clear ho hb b2 HLK
          go_wp2_with fail
          go_roundw
          case rel => exact ⟨k + 1, m, co, Ao, rfl, by omega, rfl, by omega, HM, HN, HB⟩
          case measure => simp only [intOf]; omega
        · have HMM := Lib.hid hm
          clear hm
          go_wp2_with fail
          refine HLK.out.mono ?_
          rintro e1 w2 ⟨rfl, b2⟩
          have ho2 := Lib.hid (own_below ho.out b2 (Nat.le_refl _))
          have hb2 := hb.out.trans (b2.mono hb.out.size)
          have HB2 := Lib.hid hb2
          have hsz := hb2.size
          obtain ⟨y0, x0⟩ := HAT.out w2 (HBW.out.trans (b2.mono HBW.out.size))
          clear x1 x2 x3 y1 y2 ho hb b2 hb2 HLK
          go_wp2_with (at_builtin; refine wpList_append_one _ rfl _ _ _ rfl w1.heap.size 3 i0 _ 8 Try.underlying22 HI.out.1 HI.out.2.1 HI.out.2.2.1 HI.out.2.2.2 rfl _ m (nums .i64 (behindF (l.take k) all)) rfl ho2.out (.int .i64 nd) 1 rfl rfl (by omega) (by omega) hsz ?_; intro v5 w5 o5 g5 _; obtain ⟨A5, c5, rfl⟩ := own_form o5)
          have hb5 := HB2.out.grown g5 hsz (fun g hg => (ho2.out.lt g hg).1)
          have HN : Hid (w5.ownsRow w1.heap.size 3 1 (.slice A5 (m + 1) c5) (m + 1) (nums .i64 (behindF (l.take (k + 1)) all))) := Lib.hid (by
            rw [HT2.out, HT.out]
            simpa [nums, HD.out] using o5)
          have HM : (behindF (l.take (k + 1)) all).length = m + 1 := by
            rw [HT2.out, HT.out]
            simp [HMM.out, HD.out]
          have HB := Lib.hid hb5
          clear o5 g5 hb5 ho2 HB2
          go_roundw
          case rel => exact ⟨k + 1, m + 1, c5, A5, rfl, by omega, rfl, by omega, HM, HN, HB⟩
          case measure => simp only [intOf]; omega
    · obtain rfl : k = n := by omega
      have hlk : l.take k = l := List.take_of_length_le (by have := HL.out; omega)
      rw [hlk] at ho hm
      have HO := Lib.hid (And.intro ho.out hm)
      have HE := Lib.hid (HB1.out.trans (hb.out.mono hs1))
      clear ho hm hlk
      go_wp2_with fail
      go_ret
      refine ⟨Ao, co, by rw [HO.out.2]; rfl, Lib.hid ⟨own_ns (by rw [HO.out.2]; exact HO.out.1), fun hp a ha => ?_⟩, HE.out⟩
      rw [HO.out.2] at hp
      exact Nat.le_trans hs1 ((own_low HO.out.1).2 hp a ha)
end Quorum
end Go.Proofs.Ytbhidndgnldheaa

/-
  Rows of versions that a call makes: what an element points to lies in blocks apart from the row's.
-/
namespace Go.Proofs.Ytbhidndgnldheaa
namespace Code
open Go.RowKit Span Vers

theorem own_same {w w' : World} {base : Nat} {e : TypeId} {size : Nat} {v : Value} {n : Nat} {xs : List Value} (h : w.ownsRow base e size v n xs) (hk : ∀ g, v.ownBlock = some g → w'.heap[g]? = w.heap[g]?) : w'.ownsRow base e size v n xs := by
  refine ⟨h.1, ?_⟩
  rcases h.2 with hn | ⟨g, cap, cur, rfl, hbg, hg, rest⟩
  · exact .inl hn
  · exact .inr ⟨g, cap, cur, rfl, hbg, by rw [hk g rfl]; exact hg, rest⟩

/-- A version whose past is a row of the call's own, between L and B. -/
def VerO (w : World) (L B : Nat) (p : Pv) : Prop :=
  Pa w L B p.2.1 p.2.2 p.1 ∧ w.ownsRow L 111 3 (.slice p.2.1 p.1.past.length p.2.2) p.1.past.length (sps p.1.past) ∧ ∀ g, (Value.slice p.2.1 p.1.past.length p.2.2).ownBlock = some g → g < B
theorem VerO.keep {w w' : World} {L B : Nat} {p : Pv} (h : VerO w L B p) (hk : ∀ k, L ≤ k → k < B → w'.heap[k]? = w.heap[k]?) : VerO w' L B p :=
  ⟨h.1.keep fun a h1 h2 => World.cell?_of_block (hk a.block h1 h2), own_same h.2.1 fun g hg => hk g (h.2.1.lt g hg).1 (h.2.2 g hg), h.2.2⟩

/-- A row of versions of the call's own, all between base and B. -/
def RowV (base B : Nat) (w : World) (v : Value) (ps : List Pv) : Prop :=
  w.ownsRow base 69 5 v ps.length (vcs ps) ∧ (∀ g, v.ownBlock = some g → g < B) ∧ ∀ p ∈ ps, ∃ L B', base ≤ L ∧ B' ≤ B ∧ (∀ g, v.ownBlock = some g → g < L ∨ B' ≤ g) ∧ VerO w L B' p
theorem rowV_nil (base B : Nat) (w : World) : RowV base B w (.slice none 0 0) [] := by
  refine ⟨World.ownsRow_nil _ _ _ _, fun g h => ?_, fun p hp => ?_⟩
  · cases h
  · cases hp
theorem RowV.keep {base B : Nat} {w w' : World} {v : Value} {ps : List Pv} (h : RowV base B w v ps) (hk : ∀ k, base ≤ k → k < B → w'.heap[k]? = w.heap[k]?) : RowV base B w' v ps := by
  refine ⟨own_same h.1 fun g hg => hk g (h.1.lt g hg).1 (h.2.1 g hg), h.2.1, fun p hp => ?_⟩
  obtain ⟨L, B', h1, h2, h3, h4⟩ := h.2.2 p hp
  exact ⟨L, B', h1, h2, h3, h4.keep fun k a b => hk k (by omega) (by omega)⟩
theorem RowV.more {base B B' : Nat} {w : World} {v : Value} {ps : List Pv} (h : RowV base B w v ps) (hB : B ≤ B') : RowV base B' w v ps := by
  refine ⟨h.1, fun g hg => by have := h.2.1 g hg; omega, fun p hp => ?_⟩
  obtain ⟨L, C, h1, h2, h3, h4⟩ := h.2.2 p hp
  exact ⟨L, C, h1, by omega, h3, h4⟩
theorem RowV.less {base base' B : Nat} {w : World} {v : Value} {ps : List Pv} (h : RowV base B w v ps) (hb : base' ≤ base) : RowV base' B w v ps := by
  refine ⟨own_base h.1 hb, h.2.1, fun p hp => ?_⟩
  obtain ⟨L, C, h1, h2, h3, h4⟩ := h.2.2 p hp
  exact ⟨L, C, by omega, h2, h3, h4⟩
/-- One version more: made behind the row, then appended. -/
theorem RowV.add {base : Nat} {w w1 w2 : World} {v v' : Value} {ps : List Pv} {p : Pv} (h : RowV base w.heap.size w v ps) (hg : ∀ k, base ≤ k → k < w.heap.size → w1.heap[k]? = w.heap[k]?) (hs : w.heap.size ≤ w1.heap.size)
    (hp : VerO w1 w.heap.size w1.heap.size p) (hb : base ≤ w.heap.size) (ho : w2.ownsRow base 69 5 v' (ps.length + 1) (vcs (ps ++ [p]))) (h2 : w1.grownBy w2 v.ownBlock) (hat : v'.ownBlock = v.ownBlock ∨ ∃ g, v'.ownBlock = some g ∧ w1.heap.size ≤ g) : RowV base w2.heap.size w2 v' (ps ++ [p]) := by
  have hs2 := h2.size
  refine ⟨by simpa using ho, fun g hg => (ho.lt g hg).2, fun q hq => ?_⟩
  rcases List.mem_append.1 hq with hq | hq
  · obtain ⟨L, B', h1, h3, h4, h5⟩ := h.2.2 q hq
    refine ⟨L, B', h1, by omega, fun g hg' => ?_, (h5.keep fun k a b => hg k (by omega) (by omega)).keep fun k a b => h2.block k (by omega) (fun e => ?_)⟩
    · rcases hat with e | ⟨g', e, hge⟩
      · exact h4 g (e ▸ hg')
      · rw [hg'] at e
        injection e with e
        subst e
        exact .inr (by omega)
    · have := h4 k e.symm
      omega
  · obtain rfl := List.mem_singleton.1 hq
    refine ⟨w.heap.size, w1.heap.size, hb, hs2, fun g hg' => ?_, hp.keep fun k a b => h2.block k b (fun e => by have := h.2.1 k e.symm; omega)⟩
    rcases hat with e | ⟨g', e, hge⟩
    · exact .inl (h.2.1 g (e ▸ hg'))
    · rw [hg'] at e
      injection e with e
      subst e
      exact .inr hge
theorem RowV.vs {base B n c : Nat} {w : World} {A : Option Addr} {ps : List Pv} (h : RowV base B w (.slice A n c) ps) (_hB : B ≤ w.heap.size) : Vs w base B A (ps.map Prod.fst) := by
  intro hp
  rw [List.length_map] at hp
  obtain ⟨ho, hrow, hpa⟩ := h
  rcases ho.2 with ⟨_, h0⟩ | ⟨g, cap, cur, hv, hbg, hg, rest⟩
  · omega
  · injection hv with h1 h2 h3
    subst h1
    refine ⟨g, 0, rfl, by omega, hrow g rfl, fun j hj => ?_⟩
    rw [List.length_map] at hj
    have e : (ps.map Prod.fst).getD j v0 = (ps.getD j z0).1 := by simp [List.getD_eq_getElem?_getD, hj]
    have hm : ps.getD j z0 ∈ ps := by
      rw [List.getD_eq_getElem?_getD, List.getElem?_eq_getElem hj]
      exact List.getElem_mem _
    rw [e]
    have hat : ∀ r, r < 5 → ∀ u, (vcc (ps.getD j z0))[r]? = some u → w.cell? ⟨g, 0 + j * 5 + r, none⟩ = some u := fun r hr u hu => by
      have hc := ho.cells (g := g) rfl (j * 5 + r) u (by rw [vcs_at ps j hj r hr]; exact hu)
      rw [Vers.add_plain] at hc
      rw [show 0 + j * 5 + r = 0 + (j * 5 + r) by omega]
      exact hc
    obtain ⟨L, B', k1, k2, _, k4⟩ := hpa _ hm
    exact ⟨_, _, hat 0 (by omega) _ (by simp [vcc]), hat 1 (by omega) _ (by simp [vcc]), hat 2 (by omega) _ (by simp [vcc]), hat 3 (by omega) _ (by simp [vcc]), hat 4 (by omega) _ (by simp [vcc]), (k4.1.more k2).less k1⟩

end Code
end Go.Proofs.Ytbhidndgnldheaa

/-
  firthref10.Own: a record in memory of its own.
-/
namespace Go.Proofs.Ytbhidndgnldheaa
namespace Own
open Go.RowKit Vers Span Blk
attribute [local go_sem ↓] Go.wp_at_zero Go.wp_at_succ

/-- A record of the call's own: its versions are a row of the call's own, each with a past of its own. -/
def NewRr (key : ByteArray) (l : List Vr) (m : Nat) (w : World) (e : Ending) (w' : World) : Prop := ∃ A1 c1 ps, e = .returned (.agg #[.string key, .slice A1 m c1]) ∧ Hid (ps.map Prod.fst = l ∧ Code.RowV w.heap.size w'.heap.size w' (.slice A1 m c1) ps) ∧ Below w.heap.size w w'
/-- k of them have been copied. -/
def Copied (l : List Vr) (m ob : Nat) (key : ByteArray) (w : World) (q : Value) (wr : World) : Prop :=
  ∃ (k : Nat) (ps : List Pv) (A : Option Addr) (c : Nat), q = .int .i64 k ∧ k ≤ m ∧ Hid (ps.map Prod.fst = l.take k ∧ ps.length = k ∧ Bn ob 89 [.string key, .slice A k c] wr ∧ Code.RowV (ob + 1) wr.heap.size wr (.slice A k c) ps ∧ Below ob w wr)
set_option maxRecDepth 100000 in
set_option maxHeartbeats 2000000 in
theorem own_any (key : ByteArray) (A : Option Addr) (c m : Nat) (l : List Vr) (hm : l.length = m) (hbig : m ≤ 2199023255488) (hp : ∀ v ∈ l, v.past.length ≤ 5864062014800) (w : World) (hv : Vs w 0 w.heap.size A l) :
    Calls Try.prog 42 #[.agg #[.string key, .slice A m c]] w (NewRr key l m w) := by
  obtain ⟨i0, hi0, hz0, hz1, hz2⟩ := info_span
  obtain ⟨j0, hj0, hy0, hy1, hy2⟩ := info_parts info_ver
  have HI := Lib.hid (And.intro (And.intro hi0 (And.intro hz0 (And.intro hz1 hz2))) (And.intro hj0 (And.intro hy0 (And.intro hy1 hy2))))
  obtain ⟨U, hU⟩ : ∃ U, w.alloc (.cells #[.string key, .slice A m c] 89) = U := ⟨_, rfl⟩
  have bU : Below w.heap.size w U := by rw [← hU]; exact (Below.refl _ w).alloc (Nat.le_refl _) _
  have sU : U.heap.size = w.heap.size + 1 := by rw [← hU]; simp
  have BU : Bn w.heap.size 89 [.string key, .slice A m c] U := by rw [← hU]; exact heap_alloc_new w _
  obtain ⟨V, hV⟩ : ∃ V, U.alloc (.cells #[.string ⟨#[]⟩, .slice none 0 0] 89) = V := ⟨_, rfl⟩
  have bV : Below U.heap.size U V := by rw [← hV]; exact (Below.refl _ U).alloc (Nat.le_refl _) _
  have BV : Bn U.heap.size 89 [.string ⟨#[]⟩, .slice none 0 0] V := by rw [← hV]; exact heap_alloc_new U _
  have sV : V.heap.size = w.heap.size + 2 := by rw [← hV]; simp [sU]
  obtain ⟨X, hX⟩ : ∃ X, V.alloc (.cells #[.string key, .slice none 0 0] 89) = X := ⟨_, rfl⟩
  have bX : Below V.heap.size V X := by rw [← hX]; exact (Below.refl _ V).alloc (Nat.le_refl _) _
  have BX : Bn V.heap.size 89 [.string key, .slice none 0 0] X := by rw [← hX]; exact heap_alloc_new V _
  have sX : X.heap.size = w.heap.size + 3 := by rw [← hX]; simp [sV]
  rw [sU] at BV
  rw [sV] at BX
  have BU' := (BU.same (bV.block _ BU.lt)).same (bX.block _ (by omega))
  have BV' := BV.same (bX.block _ (by omega))
  have bW : Below w.heap.size w X := (bU.trans (bV.mono bU.size)).trans (bX.mono (by omega))
  have x0 := (BU.same (bV.block _ BU.lt)).cell 0
  simp only [List.getElem?_cons_zero] at x0
  obtain ⟨ob, hob⟩ : ∃ ob, w.heap.size + 2 = ob := ⟨_, rfl⟩
  rw [hob] at BX
  have HB := Lib.hid (And.intro bW (And.intro BU' (And.intro BV' (And.intro hob (And.intro sX (And.intro hv hm))))))
  have HP := Lib.hid hp
  have HI0 : Hid (Copied l m ob key X (.int .i64 0) X) := Lib.hid ⟨0, [], none, 0, rfl, by omega, Lib.hid ⟨by simp, rfl, BX, Code.rowV_nil _ _ _, Below.refl _ _⟩⟩
  have HXX := Lib.hid hX
  have HOB := Lib.hid hob
  clear hX hob
  clear hv hm hp bW BU' BV' sX bX bU bV BX BV BU hi0 hz0 hz1 hz2 hj0 hy0 hy1 hy2
  go_enter Try.func42, Try.ntmps42
  go_wp2_with fail
  rw [HXX.out, HOB.out]
  go_loopw [4] (fun q wr => Copied l m ob key X q wr) (fun q _ => m - (intOf q).toNat)
  case atStart => exact HI0.out
  case round =>
    clear HI0
    obtain ⟨k, ps, Ao, co, rfl, hk, hst⟩ := hrel
    have B0 := HB.out.2.1.same (hst.out.2.2.2.2.block _ (by have := HB.out.2.2.2.1; omega))
    have c1 := B0.cell 1
    have hbw : Below w.heap.size w wr := HB.out.1.trans (hst.out.2.2.2.2.mono (by have := HB.out.2.2.2.1; omega))
    simp only [List.getElem?_cons_zero, List.getElem?_cons_succ] at c1
    by_cases hlt : k < m
    · obtain ⟨b, off, A1, cc, rfl, _, hbB, a0, a1, a2, a3, a4, hpv⟩ := HB.out.2.2.2.2.2.1.at HB.out.2.2.2.2.2.2 hbw hlt rfl
      have hkl : k < l.length := by have := HB.out.2.2.2.2.2.2; omega
      have hmem : l.getD k v0 ∈ l := by
        rw [List.getD_eq_getElem?_getD, List.getElem?_eq_getElem hkl]
        exact List.getElem_mem _
      have hbp := HP.out _ hmem
      have HT : Hid (l.take (k + 1) = l.take k ++ [l.getD k v0]) := Lib.hid (by
        rw [List.take_succ_eq_append_getElem hkl]
        simp [List.getD_eq_getElem?_getD, hkl])
      obtain ⟨v, hvv⟩ : ∃ v, l.getD k v0 = v := ⟨_, rfl⟩
      rw [hvv] at a0 a1 a2 a3 a4 hpv hbp
      have HVV := Lib.hid hvv
      obtain ⟨s, vn, vp, vg, vx⟩ := v
      simp only at a0 a1 a2 a3 a4 hbp
      obtain ⟨kp, hkp⟩ : ∃ kp, vp.length = kp := ⟨_, rfl⟩
      rw [hkp] at a2 hbp
      have d1 : (0 : Int) ≤ (k : Int) := by omega
      have d2 : (k : Int) < (m : Int) := by omega
      obtain ⟨W1, hW1⟩ : ∃ W, wr.alloc (.cells #[.int .i64 s, .int .i64 vn, .slice A1 kp cc, .bool vg, .string vx] 69) = W := ⟨_, rfl⟩
      have b1 : Below wr.heap.size wr W1 := by rw [← hW1]; exact (Below.refl _ wr).alloc (Nat.le_refl _) _
      have B1 : Bn wr.heap.size 69 [.int .i64 s, .int .i64 vn, .slice A1 kp cc, .bool vg, .string vx] W1 := by rw [← hW1]; exact heap_alloc_new wr _
      have s1 : W1.heap.size = wr.heap.size + 1 := by rw [← hW1]; simp
      have HW1 := Lib.hid hW1
      have HU := Lib.hid (And.intro b1 (And.intro B1 s1))
      have HSS := Lib.hid (hpv.1.below (b1.mono hbw.size))
      have HK := Lib.hid (And.intro hkp hpv)
      have hszw : w.heap.size ≤ W1.heap.size := Nat.le_trans hbw.size b1.size
      have HBW := Lib.hid hbw
      clear hW1 b1 B1 s1 hkl hmem hvv hkp hpv hbw
      go_wp2_with (first
        | (at_builtin; rw [HW1.out]; refine wpList_append_ss _ rfl (.tmp 22) (.tmp 24) 67 rfl W1.heap.size 111 i0 _ 24 Try.underlying67 HI.out.1.1 HI.out.1.2.1 HI.out.1.2.2.1 HI.out.1.2.2.2 rfl (.slice none 0 0) 0 [] rfl (World.ownsRow_nil _ _ _ _) w.heap.size A1 kp cc vp HK.out.1 rfl HSS.out (by omega) (by omega) (Nat.le_refl _) ?_
           intro v2 w2 o2 g2 _
           rw [Nat.zero_add, List.nil_append] at o2
           obtain ⟨Ap, cp, rfl⟩ := own_form o2
           have B2 := HU.out.2.1.kept g2 (by simp [Value.ownBlock])
           have y2 := (B2.cell 2).trans rfl
           have f2 := B2.frozen 2
           have b2 : Below wr.heap.size wr w2 := HU.out.1.grown g2 HU.out.1.size (by simp [Value.ownBlock])
           have BX := B2.set 2 (.slice Ap kp cp)
           have gX := gset w2 wr.heap.size 2 (.slice Ap kp cp)
           obtain ⟨W3, hW3⟩ : ∃ W, w2.setCell ⟨wr.heap.size, 2, none⟩ (.slice Ap kp cp) = W := ⟨_, rfl⟩
           rw [hW3] at BX gX
           simp only [List.set] at BX
           have b3 : Below wr.heap.size wr W3 := b2.grown gX b2.size (fun j hj => by injection hj with hj; omega)
           have o3 := own_keep o2 fun g hg => gX.block g (o2.lt g hg).2 (fun q => by injection q with q; have := (o2.lt g hg).1; have := HU.out.2.2; omega)
           have z0 := (BX.cell 0).trans rfl
           have z1 := (BX.cell 1).trans rfl
           have z2 := (BX.cell 2).trans rfl
           have z3 := (BX.cell 3).trans rfl
           have z4 := (BX.cell 4).trans rfl
           have B3 := hst.out.2.2.1.same (b3.block _ hst.out.2.2.1.lt)
           have z5 := (B3.cell 1).trans rfl
           have hs3 := b3.size
           have H3 := Lib.hid (And.intro b3 (And.intro o3 (And.intro (own_below hst.out.2.2.2.1.1 b3 (Nat.le_refl _)) B3)))
           have HG := Lib.hid gX.size
           have hs2 := g2.size
           have HG2 := Lib.hid (Nat.le_trans hs2 gX.size)
           clear B2 b2 BX gX b3 o2 o3 g2 B3 hs2)
        | (at_builtin; refine wpList_append_v _ rfl (.tmp 29) (.tmp 31) 47 rfl (ob + 1) 69 j0 _ 64 Try.underlying47 HI.out.2.1 HI.out.2.2.1 HI.out.2.2.2.1 HI.out.2.2.2.2 rfl (.slice Ao k co) k ps rfl (by have h := H3.out.2.2.1; rwa [hst.out.2.1] at h) (⟨s, vn, vp, vg, vx⟩, Ap, cp) kp HK.out.1 1 rfl (by omega) (by omega) (by have := hst.out.2.2.1.lt; omega) ?_
           intro v5 w5 o5 g5 at5
           obtain ⟨A5, c5, rfl⟩ := own_form o5
           have B5 := H3.out.2.2.2.kept g5 (fun e => by have := (H3.out.2.2.1.lt ob e.symm).1; omega)
           have y5 := (B5.cell 1).trans rfl
           have f5 := B5.frozen 1
           have H5 := Lib.hid (And.intro o5 (And.intro g5 (And.intro at5 B5)))
           clear o5 g5 at5 B5))
      have gY := gset w5 ob 1 (.slice A5 (k + 1) c5)
      obtain ⟨Y, hY⟩ : ∃ Y, w5.setCell ⟨ob, 1, none⟩ (.slice A5 (k + 1) c5) = Y := ⟨_, rfl⟩
      rw [hY] at gY ⊢
      have BY := H5.out.2.2.2.set 1 (.slice A5 (k + 1) c5)
      rw [hY] at BY
      have hob : ob + 1 ≤ wr.heap.size := hst.out.2.2.1.lt
      have o3 := H3.out.2.1
      have hver : Code.VerO W3 wr.heap.size W3.heap.size (⟨s, vn, vp, vg, vx⟩, Ap, cp) := by
        have hl := own_low o3
        refine ⟨⟨own_ss (n := kp) (by rw [← HK.out.1] at o3 ⊢; exact o3), ?_, HK.out.2.2.2.1, HK.out.2.2.2.2.1, fun hp a ha => ?_⟩, ?_, fun g hg => (o3.lt g (by rw [HK.out.1] at hg; exact hg)).2⟩
        · have := hl.1
          simp only [HK.out.1]
          exact this
        · have := hl.2 (by have := HK.out.1; simp only at hp; omega) a ha
          have := HU.out.2.2
          omega
        · simp only [HK.out.1]
          exact own_base o3 (by have := HU.out.2.2; omega)
      have hadd := hst.out.2.2.2.1.add (fun j _ hj => H3.out.1.block j hj) hs3 hver hob (by rw [hst.out.2.1]; exact H5.out.1) H5.out.2.1 H5.out.2.2.1
      have hrow := hadd.keep fun j h1 h2 => gY.block j h2 (by intro q; injection q with q; omega)
      have hfin : Copied l m ob key X (.int .i64 ((k + 1 : Nat) : Int)) Y := ⟨k + 1, ps ++ [(⟨s, vn, vp, vg, vx⟩, Ap, cp)], A5, c5, rfl, by omega, Lib.hid ⟨?_, ?_, by simpa using BY, hrow.more gY.size, ?_⟩⟩
      · exact ⟨hfin, by simp only [intOf]; omega⟩
      · rw [List.map_append, hst.out.1, HT.out, HVV.out]
        rfl
      · rw [List.length_append, hst.out.2.1]
        rfl
      · have h3 := hst.out.2.2.2.2.trans (H3.out.1.mono (by omega))
        have h5 := h3.grown H5.out.2.1 (by omega) fun j hj => by have := (H3.out.2.2.1.lt j hj).1; omega
        exact h5.grown gY (by have := H5.out.2.2.2.lt; omega) fun j hj => by injection hj with hj; omega
    · obtain rfl : k = m := by omega
      have Bo := hst.out.2.2.1
      have Br := HB.out.2.2.1.same (hst.out.2.2.2.2.block _ (by have := HB.out.2.2.2.1; omega))
      have z0 := (Bo.cell 0).trans rfl
      have z1 := (Bo.cell 1).trans rfl
      have r0 := (Br.cell 0).trans rfl
      have r1 := (Br.cell 1).trans rfl
      have rf0 := Br.frozen 0
      have rf1 := Br.frozen 1
      have BY := (Br.set 0 (.string key)).set 1 (.slice Ao k co)
      have gY := grown_trans_one (gset wr (w.heap.size + 1) 0 (.string key)) (gset _ (w.heap.size + 1) 1 (.slice Ao k co))
      obtain ⟨Y, hY⟩ : ∃ Y, (wr.setCell ⟨w.heap.size + 1, 0, none⟩ (.string key)).setCell ⟨w.heap.size + 1, 1, none⟩ (.slice Ao k co) = Y := ⟨_, rfl⟩
      rw [hY] at BY gY
      simp only [List.set] at BY
      have y0 := (BY.cell 0).trans rfl
      have y1 := (BY.cell 1).trans rfl
      have hR : NewRr key l k w (.returned (.agg #[.string key, .slice Ao k co])) Y := by
        have ho := HB.out.2.2.2.1
        have hrow := (hst.out.2.2.2.1.keep fun j h1 h2 => gY.block j h2 (by intro q; injection q with q; omega)).more gY.size
        refine ⟨Ao, co, ps, rfl, Lib.hid ⟨?_, hrow.less (by omega)⟩, hbw.grown gY hbw.size fun j hj => by injection hj with hj; omega⟩
        rw [hst.out.1, List.take_of_length_le (by have := HB.out.2.2.2.2.2.2; omega)]
      have HR := Lib.hid hR
      clear hR gY BY Bo Br B0 hbw
      go_wp2_with fail
      refine bodyPost_ret (v := .agg #[.string key, .slice Ao k co]) ?_ rfl HR.out
      rw [Blk.results_cell1 rfl]
      go_simp
end Own
end Go.Proofs.Ytbhidndgnldheaa

/-
  An asking of the document's begins. Written by gen16/newa.py.
-/
namespace Go.Proofs.Ytbhidndgnldheaa
namespace Quorum
open Go.RowKit Vers Span Blk
attribute [local go_sem ↓] Go.wp_at_zero Go.wp_at_succ

def O1 (n : Nat) : Obj := .cells (List.replicate n (.bool false)).toArray 4
def O2 (n : Nat) : Obj := .cells (List.replicate n (.slice none 0 0)).toArray 47
def O3 (n : Nat) : Obj := .cells (List.replicate n (.slice none 0 0)).toArray 48
/-- The three rows that are made. -/
def Tri (n : Nat) (w V : World) (a b c : Nat) : Prop :=
  Below w.heap.size w V ∧ V.heap[a]? = some (O1 n) ∧ V.heap[b]? = some (O2 n) ∧ V.heap[c]? = some (O3 n)
theorem three_of {m : Nat} {w : World} (hm : w.heap.size = m) (o p q : Obj) : Below w.heap.size w (((w.alloc o).alloc p).alloc q) ∧ (((w.alloc o).alloc p).alloc q).heap[m]? = some o ∧ (((w.alloc o).alloc p).alloc q).heap[m + 1]? = some p ∧ (((w.alloc o).alloc p).alloc q).heap[m + 2]? = some q ∧ (((w.alloc o).alloc p).alloc q).heap.size = m + 3 := by
  have hd : w.heap.size = m := hm
  refine ⟨(((Below.refl _ w).alloc (by omega) _).alloc (by simp) _).alloc (by simp; omega) _, ?_, ?_, ?_, by simp [hd]⟩
  · rw [Below.heap_alloc _ _ _ (by simp; omega), Below.heap_alloc _ _ _ (by simp; omega), ← hd]
    exact World.alloc_heap_new _ _
  · rw [Below.heap_alloc _ _ _ (by simp; omega)]
    have h := World.alloc_heap_new (w.alloc o) p
    rwa [World.size_alloc, hd] at h
  · have h := World.alloc_heap_new ((w.alloc o).alloc p) q
    rwa [World.size_alloc, World.size_alloc, hd] at h
theorem tri_of123 {n m : Nat} {w : World} (hm : w.heap.size = m) : Tri n w (((w.alloc (O1 n)).alloc (O2 n)).alloc (O3 n)) m (m + 1) (m + 2) ∧ (((w.alloc (O1 n)).alloc (O2 n)).alloc (O3 n)).heap.size = m + 3 := by
  obtain ⟨h1, h2, h3, h4, h5⟩ := three_of hm (O1 n) (O2 n) (O3 n)
  exact ⟨⟨h1, h2, h3, h4⟩, h5⟩
theorem tri_of132 {n m : Nat} {w : World} (hm : w.heap.size = m) : Tri n w (((w.alloc (O1 n)).alloc (O3 n)).alloc (O2 n)) m (m + 2) (m + 1) ∧ (((w.alloc (O1 n)).alloc (O3 n)).alloc (O2 n)).heap.size = m + 3 := by
  obtain ⟨h1, h2, h3, h4, h5⟩ := three_of hm (O1 n) (O3 n) (O2 n)
  exact ⟨⟨h1, h2, h4, h3⟩, h5⟩
theorem tri_of213 {n m : Nat} {w : World} (hm : w.heap.size = m) : Tri n w (((w.alloc (O2 n)).alloc (O1 n)).alloc (O3 n)) (m + 1) m (m + 2) ∧ (((w.alloc (O2 n)).alloc (O1 n)).alloc (O3 n)).heap.size = m + 3 := by
  obtain ⟨h1, h2, h3, h4, h5⟩ := three_of hm (O2 n) (O1 n) (O3 n)
  exact ⟨⟨h1, h3, h2, h4⟩, h5⟩
theorem tri_of231 {n m : Nat} {w : World} (hm : w.heap.size = m) : Tri n w (((w.alloc (O2 n)).alloc (O3 n)).alloc (O1 n)) (m + 2) m (m + 1) ∧ (((w.alloc (O2 n)).alloc (O3 n)).alloc (O1 n)).heap.size = m + 3 := by
  obtain ⟨h1, h2, h3, h4, h5⟩ := three_of hm (O2 n) (O3 n) (O1 n)
  exact ⟨⟨h1, h4, h2, h3⟩, h5⟩
theorem tri_of312 {n m : Nat} {w : World} (hm : w.heap.size = m) : Tri n w (((w.alloc (O3 n)).alloc (O1 n)).alloc (O2 n)) (m + 1) (m + 2) m ∧ (((w.alloc (O3 n)).alloc (O1 n)).alloc (O2 n)).heap.size = m + 3 := by
  obtain ⟨h1, h2, h3, h4, h5⟩ := three_of hm (O3 n) (O1 n) (O2 n)
  exact ⟨⟨h1, h3, h4, h2⟩, h5⟩
theorem tri_of321 {n m : Nat} {w : World} (hm : w.heap.size = m) : Tri n w (((w.alloc (O3 n)).alloc (O2 n)).alloc (O1 n)) (m + 2) (m + 1) m ∧ (((w.alloc (O3 n)).alloc (O2 n)).alloc (O1 n)).heap.size = m + 3 := by
  obtain ⟨h1, h2, h3, h4, h5⟩ := three_of hm (O3 n) (O2 n) (O1 n)
  exact ⟨⟨h1, h4, h3, h2⟩, h5⟩

def NewedA (ls : List Int) (need : Int) (n : Nat) (w : World) (e : Ending) (w' : World) : Prop :=
  ∃ rb lb cl cb ab x, e = .returned (hd rb) ∧ Hid (Core 81 (fun k => w.heap.size ≤ k ∧ k < w'.heap.size) w' rb need (startF ls) n lb cl cb ab x ∧ Ans (fun k => w.heap.size ≤ k ∧ k < w'.heap.size) w' (startF ls) (List.replicate n (none, 0)) cb ab ∧ Below w.heap.size w w')
theorem own_list {W : World} {B n c5 : Nat} {A5 : Option Addr} {ls : List Int} (h : W.ownsRow B 3 1 (.slice A5 n c5) n (nums .i64 ls)) (hl : ls.length = n) (h1 : 1 ≤ n) : ∃ lb, A5 = some ⟨lb, 0, none⟩ ∧ B ≤ lb ∧ lb < W.heap.size ∧ ∀ (j : Nat) (x : Int), ls[j]? = some x → W.cell? ⟨lb, j, none⟩ = some (.int .i64 x) := by
  subst hl
  have hns := own_ns h
  rcases h.2 with ⟨_, h0⟩ | ⟨g, cap, cur, hv, hbg, hg, _⟩
  · omega
  · injection hv with e1 e2 e3
    subst e1
    obtain ⟨b, off, e, hb, hc⟩ := hns (by omega)
    injection e with e
    injection e with e1 e2 _
    subst e1 e2
    refine ⟨g, rfl, hbg, hb, fun j x hj => ?_⟩
    obtain ⟨hjl, e⟩ := List.getElem?_eq_some_iff.1 hj
    have h := hc j hjl
    rw [List.getD_eq_getElem?_getD, hj, Nat.zero_add] at h
    exact h
theorem newA_end {w X : World} {ls : List Int} {need : Int} {n m rb lb cl a b c : Nat} (hm : w.heap.size = m) (hb : Below m w X) (hR : Bn rb 81 [.slice (some ⟨lb, 0, none⟩) n cl, .int .i64 need, .slice (some ⟨a, 0, none⟩) n n, .slice (some ⟨b, 0, none⟩) n n, .slice (some ⟨c, 0, none⟩) n n] X) (h1 : X.heap[a]? = some (O1 n)) (h2 : X.heap[b]? = some (O2 n)) (hl : lb < X.heap.size ∧ ∀ (j : Nat) (x : Int), ls[j]? = some x → X.cell? ⟨lb, j, none⟩ = some (.int .i64 x)) (hd : m ≤ rb ∧ m ≤ lb ∧ m ≤ a ∧ m ≤ b) (hne : lb ≠ a ∧ lb ≠ b ∧ rb ≠ a ∧ rb ≠ b ∧ a ≠ b ∧ lb ≠ rb) (hn : ls.length = n) (ho : okL ls need) :
    NewedA ls need n w (.returned (Quorum.hd rb)) X := by
  have g1 := (Array.getElem?_eq_some_iff.1 h1).1
  have g2 := (Array.getElem?_eq_some_iff.1 h2).1
  have g3 := hR.lt
  refine ⟨rb, lb, cl, a, b, [.slice (some ⟨c, 0, none⟩) n n], rfl, Lib.hid ⟨⟨⟨by simpa using hR, by rw [start_len]; exact hn, by have := ho.1; omega, by have := ho.1; omega⟩, ⟨hl.1, fun j e he => ?_⟩, ?_, ⟨⟨by omega, g3⟩, ⟨by omega, hl.1⟩, ⟨by omega, g1⟩, ⟨by omega, g2⟩, fun k hk => hk.2⟩, hne⟩, ⟨by rw [List.length_replicate, start_len, hn], ?_, fun j e p he hp => ?_⟩, by rw [hm]; exact hb⟩⟩
  · obtain ⟨x, hx, rfl⟩ := start_at he
    exact hl.2 j x hx
  · rw [show (startF ls).map (fun e => Value.bool e.2.1) = List.replicate n (.bool false) by rw [← hn, startF, List.map_map, ← map_const]; rfl]
    exact h1
  · have e : ((startF ls).zip (List.replicate n ((none, 0) : Plc))).map (fun e => Value.slice e.2.1 e.1.2.2.length e.2.2) = List.replicate n (.slice none 0 0) := by
      clear h2 h1 hR hl ho
      subst hn
      unfold startF
      induction ls with
      | nil => rfl
      | cons x l ih =>
        rw [List.length_cons, List.replicate_succ, List.map_cons, List.zip_cons_cons, List.map_cons, ih, List.replicate_succ]
        rfl
    rw [e]
    exact h2
  · obtain ⟨x, hx, rfl⟩ := start_at he
    have hp' : p = (none, 0) := (List.eq_of_mem_replicate (List.mem_of_getElem? hp))
    subst hp'
    exact ⟨Nat.zero_le _, Nat.zero_le _, 0, 0, fun h => absurd h (by simp), Nat.zero_le _, fun k _ hk => absurd hk (Nat.not_lt_zero k)⟩
set_option maxRecDepth 100000 in
set_option maxHeartbeats 1000000 in
theorem newA_any (A : Option Addr) (c n : Nat) (ls : List Int) (hn : ls.length = n) (need : Int) (w : World) (hr : Ns .i64 w w.heap.size A ls) (_hnc : n ≤ c) (ho : okL ls need) :
    Calls Try.prog 10 #[.slice A n c, .int .i64 need] w (NewedA ls need n w) := by
  obtain ⟨i0, hi0, hz0, hz1, hz2⟩ := info_parts info_int
  have HI := Lib.hid (And.intro hi0 (And.intro hz0 (And.intro hz1 hz2)))
  have hn8 : n ≤ 8 := by have := ho.1; omega
  have hn1 : 1 ≤ n := by have := ho.1; omega
  have hm1 : ∀ W : World, (Instr.makeSlice 32 (.int .i64 (n : Int)) (.int .i64 (n : Int))).run Try.prog W = .ok (.slice (some ⟨W.heap.size, 0, none⟩) n n) (W.alloc (O1 n)) := fun W => by
    unfold O1
    rw [← made_is]
    exact run_make_row' 32 4 (.bool false) 1 Try.underlying32 (by kernel_rfl) rfl .i64 .i64 n (by omega) (by omega) W
  have hm2 : ∀ W : World, (Instr.makeSlice 51 (.int .i64 (n : Int)) (.int .i64 (n : Int))).run Try.prog W = .ok (.slice (some ⟨W.heap.size, 0, none⟩) n n) (W.alloc (O2 n)) := fun W => by
    unfold O2
    rw [← made_is]
    exact run_make_row' 51 47 (.slice none 0 0) 24 Try.underlying51 (by kernel_rfl) rfl .i64 .i64 n (by omega) (by omega) W
  have hm3 : ∀ W : World, (Instr.makeSlice 79 (.int .i64 (n : Int)) (.int .i64 (n : Int))).run Try.prog W = .ok (.slice (some ⟨W.heap.size, 0, none⟩) n n) (W.alloc (O3 n)) := fun W => by
    unfold O3
    rw [← made_is]
    exact run_make_row' 79 48 (.slice none 0 0) 24 Try.underlying79 (by kernel_rfl) rfl .i64 .i64 n (by omega) (by omega) W
  obtain ⟨m, hm⟩ : ∃ m, w.heap.size = m := ⟨_, rfl⟩
  have HR := Lib.hid (And.intro hr (And.intro hn (And.intro ho hm)))
  obtain ⟨M1, hM1⟩ : ∃ o, O1 n = o := ⟨_, rfl⟩
  obtain ⟨M2, hM2⟩ : ∃ o, O2 n = o := ⟨_, rfl⟩
  obtain ⟨M3, hM3⟩ : ∃ o, O3 n = o := ⟨_, rfl⟩
  obtain ⟨V123, hV123⟩ : ∃ V, (((w.alloc (O1 n)).alloc (O2 n)).alloc (O3 n)) = V := ⟨_, rfl⟩
  have H123 : Hid (Tri n w V123 m (m + 1) (m + 2) ∧ V123.heap.size = m + 3) := Lib.hid (by rw [← hV123]; exact tri_of123 hm)
  obtain ⟨V132, hV132⟩ : ∃ V, (((w.alloc (O1 n)).alloc (O3 n)).alloc (O2 n)) = V := ⟨_, rfl⟩
  have H132 : Hid (Tri n w V132 m (m + 2) (m + 1) ∧ V132.heap.size = m + 3) := Lib.hid (by rw [← hV132]; exact tri_of132 hm)
  obtain ⟨V213, hV213⟩ : ∃ V, (((w.alloc (O2 n)).alloc (O1 n)).alloc (O3 n)) = V := ⟨_, rfl⟩
  have H213 : Hid (Tri n w V213 (m + 1) m (m + 2) ∧ V213.heap.size = m + 3) := Lib.hid (by rw [← hV213]; exact tri_of213 hm)
  obtain ⟨V231, hV231⟩ : ∃ V, (((w.alloc (O2 n)).alloc (O3 n)).alloc (O1 n)) = V := ⟨_, rfl⟩
  have H231 : Hid (Tri n w V231 (m + 2) m (m + 1) ∧ V231.heap.size = m + 3) := Lib.hid (by rw [← hV231]; exact tri_of231 hm)
  obtain ⟨V312, hV312⟩ : ∃ V, (((w.alloc (O3 n)).alloc (O1 n)).alloc (O2 n)) = V := ⟨_, rfl⟩
  have H312 : Hid (Tri n w V312 (m + 1) (m + 2) m ∧ V312.heap.size = m + 3) := Lib.hid (by rw [← hV312]; exact tri_of312 hm)
  obtain ⟨V321, hV321⟩ : ∃ V, (((w.alloc (O3 n)).alloc (O2 n)).alloc (O1 n)) = V := ⟨_, rfl⟩
  have H321 : Hid (Tri n w V321 (m + 2) (m + 1) m ∧ V321.heap.size = m + 3) := Lib.hid (by rw [← hV321]; exact tri_of321 hm)
  rw [hM1, hM2, hM3] at hV123
  rw [hM1, hM2, hM3] at hV132
  rw [hM1, hM2, hM3] at hV213
  rw [hM1, hM2, hM3] at hV231
  rw [hM1, hM2, hM3] at hV312
  rw [hM1, hM2, hM3] at hV321

  rw [hM1] at hm1
  rw [hM2] at hm2
  rw [hM3] at hm3
  clear hr hi0 hz0 hz1 hz2 hn ho hM1 hM2 hM3
  go_enter Try.func10, Try.ntmps10
  go_wp2_with fail
  go_region_law (fail)
  all_goals first
    | (rw [show V123.heap.size = m + 1 + 1 + 1 from H123.out.2]
       obtain ⟨⟨b1, t1, t2, t3⟩, hs⟩ := H123.out
       obtain ⟨U, hU⟩ : ∃ U, (V123.alloc (.cells #[.slice none 0 0, .int .i64 need, .slice (some ⟨m, 0, none⟩) n n, .slice (some ⟨m + 1, 0, none⟩) n n, .slice (some ⟨m + 1 + 1, 0, none⟩) n n] 81)).drew = U := ⟨_, rfl⟩
       have BU : Bn (m + 1 + 1 + 1) 81 [.slice none 0 0, .int .i64 need, .slice (some ⟨m, 0, none⟩) n n, .slice (some ⟨m + 1, 0, none⟩) n n, .slice (some ⟨m + 1 + 1, 0, none⟩) n n] U := by
         have h := heap_alloc_new V123 (.cells #[.slice none 0 0, .int .i64 need, .slice (some ⟨m, 0, none⟩) n n, .slice (some ⟨m + 1, 0, none⟩) n n, .slice (some ⟨m + 1 + 1, 0, none⟩) n n] 81)
         rw [hs] at h
         rw [← hU]
         exact h
       have bU : Below (m + 3) V123 U := by rw [← hU]; exact ((Below.refl _ _).alloc (by omega) _).drew
       have sU : U.heap.size = m + 4 := by rw [← hU]; show (V123.alloc _).heap.size = m + 4; simp [hs]
       have bw : Below m w U := by rw [hm] at b1; exact b1.trans (bU.mono (by omega))
       have hrU : Ns .i64 U m A ls := by have h := HR.out.1; rw [hm] at h; exact h.below bw
       have x0 := (BU.cell 0).trans rfl
       have T := Lib.hid (And.intro bw (And.intro (show U.heap[m]? = some (O1 n) from (bU.block _ (by omega)).trans t1) (And.intro (show U.heap[m + 1]? = some (O2 n) from (bU.block _ (by omega)).trans t2) (And.intro BU hrU))))
       rw [hU]
       clear hU bU b1 t1 t2 t3 hs bw BU hrU hm1 hm2 hm3
       go_wp2_with (at_builtin; refine wpList_append_ns _ rfl _ _ _ rfl (m + 4) 3 i0 _ 8 Try.underlying22 HI.out.1 HI.out.2.1 HI.out.2.2.1 HI.out.2.2.2 rfl _ 0 [] rfl (World.ownsRow_nil _ _ _ _) .i64 m A n c ls HR.out.2.1 rfl T.out.2.2.2.2 (by omega) (by omega) (by omega) ?_; intro v5 w5 o5 g5 _; rw [Nat.zero_add, List.nil_append] at o5; obtain ⟨A5, c5, rfl⟩ := own_form o5
                    have g5' : U.grownBy w5 none := g5
                    have B5 := T.out.2.2.2.1.kept g5' (by simp)
                    have z5 := B5.frozen 0
                    have y5 := (B5.cell 0).trans rfl
                    have G := Lib.hid (And.intro o5 (And.intro g5' B5))
                    clear o5 g5 g5' B5)
       obtain ⟨o5, g5, B5⟩ := G.out
       obtain ⟨bw, t1, t2, BU, hrU⟩ := T.out
       obtain ⟨lb, rfl, hlb, hlt, hls⟩ := own_list o5 HR.out.2.1 hn1
       have B6 := B5.set 0 (.slice (some ⟨lb, 0, none⟩) n c5)
       have hs5 := g5.size
       have hX : ∀ k, k ≠ m + 1 + 1 + 1 → (w5.setCell ⟨m + 1 + 1 + 1, 0, none⟩ (.slice (some ⟨lb, 0, none⟩) n c5)).heap[k]? = w5.heap[k]? := fun k hk => Below.heap_setCell _ _ _ _ (by simp only; omega)
       go_ret
       refine newA_end (n := n) hm (((bw.grown g5 (by omega) (fun k hk => by cases hk))).setCell (by simp only; omega) _) B6 ((hX _ (by omega)).trans ((g5.block _ (by omega) (by simp)).trans t1)) ((hX _ (by omega)).trans ((g5.block _ (by omega) (by simp)).trans t2)) ⟨by simp [World.setCell]; omega, fun j x hx => (World.cell?_of_block (hX lb (by omega))).trans (hls j x hx)⟩ ⟨by omega, by omega, by omega, by omega⟩ ⟨by omega, by omega, by omega, by omega, by omega, by omega⟩ HR.out.2.1 HR.out.2.2.1)
    | (rw [show V132.heap.size = m + 1 + 1 + 1 from H132.out.2]
       obtain ⟨⟨b1, t1, t2, t3⟩, hs⟩ := H132.out
       obtain ⟨U, hU⟩ : ∃ U, (V132.alloc (.cells #[.slice none 0 0, .int .i64 need, .slice (some ⟨m, 0, none⟩) n n, .slice (some ⟨m + 1 + 1, 0, none⟩) n n, .slice (some ⟨m + 1, 0, none⟩) n n] 81)).drew = U := ⟨_, rfl⟩
       have BU : Bn (m + 1 + 1 + 1) 81 [.slice none 0 0, .int .i64 need, .slice (some ⟨m, 0, none⟩) n n, .slice (some ⟨m + 1 + 1, 0, none⟩) n n, .slice (some ⟨m + 1, 0, none⟩) n n] U := by
         have h := heap_alloc_new V132 (.cells #[.slice none 0 0, .int .i64 need, .slice (some ⟨m, 0, none⟩) n n, .slice (some ⟨m + 1 + 1, 0, none⟩) n n, .slice (some ⟨m + 1, 0, none⟩) n n] 81)
         rw [hs] at h
         rw [← hU]
         exact h
       have bU : Below (m + 3) V132 U := by rw [← hU]; exact ((Below.refl _ _).alloc (by omega) _).drew
       have sU : U.heap.size = m + 4 := by rw [← hU]; show (V132.alloc _).heap.size = m + 4; simp [hs]
       have bw : Below m w U := by rw [hm] at b1; exact b1.trans (bU.mono (by omega))
       have hrU : Ns .i64 U m A ls := by have h := HR.out.1; rw [hm] at h; exact h.below bw
       have x0 := (BU.cell 0).trans rfl
       have T := Lib.hid (And.intro bw (And.intro (show U.heap[m]? = some (O1 n) from (bU.block _ (by omega)).trans t1) (And.intro (show U.heap[m + 1 + 1]? = some (O2 n) from (bU.block _ (by omega)).trans t2) (And.intro BU hrU))))
       rw [hU]
       clear hU bU b1 t1 t2 t3 hs bw BU hrU hm1 hm2 hm3
       go_wp2_with (at_builtin; refine wpList_append_ns _ rfl _ _ _ rfl (m + 4) 3 i0 _ 8 Try.underlying22 HI.out.1 HI.out.2.1 HI.out.2.2.1 HI.out.2.2.2 rfl _ 0 [] rfl (World.ownsRow_nil _ _ _ _) .i64 m A n c ls HR.out.2.1 rfl T.out.2.2.2.2 (by omega) (by omega) (by omega) ?_; intro v5 w5 o5 g5 _; rw [Nat.zero_add, List.nil_append] at o5; obtain ⟨A5, c5, rfl⟩ := own_form o5
                    have g5' : U.grownBy w5 none := g5
                    have B5 := T.out.2.2.2.1.kept g5' (by simp)
                    have z5 := B5.frozen 0
                    have y5 := (B5.cell 0).trans rfl
                    have G := Lib.hid (And.intro o5 (And.intro g5' B5))
                    clear o5 g5 g5' B5)
       obtain ⟨o5, g5, B5⟩ := G.out
       obtain ⟨bw, t1, t2, BU, hrU⟩ := T.out
       obtain ⟨lb, rfl, hlb, hlt, hls⟩ := own_list o5 HR.out.2.1 hn1
       have B6 := B5.set 0 (.slice (some ⟨lb, 0, none⟩) n c5)
       have hs5 := g5.size
       have hX : ∀ k, k ≠ m + 1 + 1 + 1 → (w5.setCell ⟨m + 1 + 1 + 1, 0, none⟩ (.slice (some ⟨lb, 0, none⟩) n c5)).heap[k]? = w5.heap[k]? := fun k hk => Below.heap_setCell _ _ _ _ (by simp only; omega)
       go_ret
       refine newA_end (n := n) hm (((bw.grown g5 (by omega) (fun k hk => by cases hk))).setCell (by simp only; omega) _) B6 ((hX _ (by omega)).trans ((g5.block _ (by omega) (by simp)).trans t1)) ((hX _ (by omega)).trans ((g5.block _ (by omega) (by simp)).trans t2)) ⟨by simp [World.setCell]; omega, fun j x hx => (World.cell?_of_block (hX lb (by omega))).trans (hls j x hx)⟩ ⟨by omega, by omega, by omega, by omega⟩ ⟨by omega, by omega, by omega, by omega, by omega, by omega⟩ HR.out.2.1 HR.out.2.2.1)
    | (rw [show V213.heap.size = m + 1 + 1 + 1 from H213.out.2]
       obtain ⟨⟨b1, t1, t2, t3⟩, hs⟩ := H213.out
       obtain ⟨U, hU⟩ : ∃ U, (V213.alloc (.cells #[.slice none 0 0, .int .i64 need, .slice (some ⟨m + 1, 0, none⟩) n n, .slice (some ⟨m, 0, none⟩) n n, .slice (some ⟨m + 1 + 1, 0, none⟩) n n] 81)).drew = U := ⟨_, rfl⟩
       have BU : Bn (m + 1 + 1 + 1) 81 [.slice none 0 0, .int .i64 need, .slice (some ⟨m + 1, 0, none⟩) n n, .slice (some ⟨m, 0, none⟩) n n, .slice (some ⟨m + 1 + 1, 0, none⟩) n n] U := by
         have h := heap_alloc_new V213 (.cells #[.slice none 0 0, .int .i64 need, .slice (some ⟨m + 1, 0, none⟩) n n, .slice (some ⟨m, 0, none⟩) n n, .slice (some ⟨m + 1 + 1, 0, none⟩) n n] 81)
         rw [hs] at h
         rw [← hU]
         exact h
       have bU : Below (m + 3) V213 U := by rw [← hU]; exact ((Below.refl _ _).alloc (by omega) _).drew
       have sU : U.heap.size = m + 4 := by rw [← hU]; show (V213.alloc _).heap.size = m + 4; simp [hs]
       have bw : Below m w U := by rw [hm] at b1; exact b1.trans (bU.mono (by omega))
       have hrU : Ns .i64 U m A ls := by have h := HR.out.1; rw [hm] at h; exact h.below bw
       have x0 := (BU.cell 0).trans rfl
       have T := Lib.hid (And.intro bw (And.intro (show U.heap[m + 1]? = some (O1 n) from (bU.block _ (by omega)).trans t1) (And.intro (show U.heap[m]? = some (O2 n) from (bU.block _ (by omega)).trans t2) (And.intro BU hrU))))
       rw [hU]
       clear hU bU b1 t1 t2 t3 hs bw BU hrU hm1 hm2 hm3
       go_wp2_with (at_builtin; refine wpList_append_ns _ rfl _ _ _ rfl (m + 4) 3 i0 _ 8 Try.underlying22 HI.out.1 HI.out.2.1 HI.out.2.2.1 HI.out.2.2.2 rfl _ 0 [] rfl (World.ownsRow_nil _ _ _ _) .i64 m A n c ls HR.out.2.1 rfl T.out.2.2.2.2 (by omega) (by omega) (by omega) ?_; intro v5 w5 o5 g5 _; rw [Nat.zero_add, List.nil_append] at o5; obtain ⟨A5, c5, rfl⟩ := own_form o5
                    have g5' : U.grownBy w5 none := g5
                    have B5 := T.out.2.2.2.1.kept g5' (by simp)
                    have z5 := B5.frozen 0
                    have y5 := (B5.cell 0).trans rfl
                    have G := Lib.hid (And.intro o5 (And.intro g5' B5))
                    clear o5 g5 g5' B5)
       obtain ⟨o5, g5, B5⟩ := G.out
       obtain ⟨bw, t1, t2, BU, hrU⟩ := T.out
       obtain ⟨lb, rfl, hlb, hlt, hls⟩ := own_list o5 HR.out.2.1 hn1
       have B6 := B5.set 0 (.slice (some ⟨lb, 0, none⟩) n c5)
       have hs5 := g5.size
       have hX : ∀ k, k ≠ m + 1 + 1 + 1 → (w5.setCell ⟨m + 1 + 1 + 1, 0, none⟩ (.slice (some ⟨lb, 0, none⟩) n c5)).heap[k]? = w5.heap[k]? := fun k hk => Below.heap_setCell _ _ _ _ (by simp only; omega)
       go_ret
       refine newA_end (n := n) hm (((bw.grown g5 (by omega) (fun k hk => by cases hk))).setCell (by simp only; omega) _) B6 ((hX _ (by omega)).trans ((g5.block _ (by omega) (by simp)).trans t1)) ((hX _ (by omega)).trans ((g5.block _ (by omega) (by simp)).trans t2)) ⟨by simp [World.setCell]; omega, fun j x hx => (World.cell?_of_block (hX lb (by omega))).trans (hls j x hx)⟩ ⟨by omega, by omega, by omega, by omega⟩ ⟨by omega, by omega, by omega, by omega, by omega, by omega⟩ HR.out.2.1 HR.out.2.2.1)
    | (rw [show V231.heap.size = m + 1 + 1 + 1 from H231.out.2]
       obtain ⟨⟨b1, t1, t2, t3⟩, hs⟩ := H231.out
       obtain ⟨U, hU⟩ : ∃ U, (V231.alloc (.cells #[.slice none 0 0, .int .i64 need, .slice (some ⟨m + 1 + 1, 0, none⟩) n n, .slice (some ⟨m, 0, none⟩) n n, .slice (some ⟨m + 1, 0, none⟩) n n] 81)).drew = U := ⟨_, rfl⟩
       have BU : Bn (m + 1 + 1 + 1) 81 [.slice none 0 0, .int .i64 need, .slice (some ⟨m + 1 + 1, 0, none⟩) n n, .slice (some ⟨m, 0, none⟩) n n, .slice (some ⟨m + 1, 0, none⟩) n n] U := by
         have h := heap_alloc_new V231 (.cells #[.slice none 0 0, .int .i64 need, .slice (some ⟨m + 1 + 1, 0, none⟩) n n, .slice (some ⟨m, 0, none⟩) n n, .slice (some ⟨m + 1, 0, none⟩) n n] 81)
         rw [hs] at h
         rw [← hU]
         exact h
       have bU : Below (m + 3) V231 U := by rw [← hU]; exact ((Below.refl _ _).alloc (by omega) _).drew
       have sU : U.heap.size = m + 4 := by rw [← hU]; show (V231.alloc _).heap.size = m + 4; simp [hs]
       have bw : Below m w U := by rw [hm] at b1; exact b1.trans (bU.mono (by omega))
       have hrU : Ns .i64 U m A ls := by have h := HR.out.1; rw [hm] at h; exact h.below bw
       have x0 := (BU.cell 0).trans rfl
       have T := Lib.hid (And.intro bw (And.intro (show U.heap[m + 1 + 1]? = some (O1 n) from (bU.block _ (by omega)).trans t1) (And.intro (show U.heap[m]? = some (O2 n) from (bU.block _ (by omega)).trans t2) (And.intro BU hrU))))
       rw [hU]
       clear hU bU b1 t1 t2 t3 hs bw BU hrU hm1 hm2 hm3
       go_wp2_with (at_builtin; refine wpList_append_ns _ rfl _ _ _ rfl (m + 4) 3 i0 _ 8 Try.underlying22 HI.out.1 HI.out.2.1 HI.out.2.2.1 HI.out.2.2.2 rfl _ 0 [] rfl (World.ownsRow_nil _ _ _ _) .i64 m A n c ls HR.out.2.1 rfl T.out.2.2.2.2 (by omega) (by omega) (by omega) ?_; intro v5 w5 o5 g5 _; rw [Nat.zero_add, List.nil_append] at o5; obtain ⟨A5, c5, rfl⟩ := own_form o5
                    have g5' : U.grownBy w5 none := g5
                    have B5 := T.out.2.2.2.1.kept g5' (by simp)
                    have z5 := B5.frozen 0
                    have y5 := (B5.cell 0).trans rfl
                    have G := Lib.hid (And.intro o5 (And.intro g5' B5))
                    clear o5 g5 g5' B5)
       obtain ⟨o5, g5, B5⟩ := G.out
       obtain ⟨bw, t1, t2, BU, hrU⟩ := T.out
       obtain ⟨lb, rfl, hlb, hlt, hls⟩ := own_list o5 HR.out.2.1 hn1
       have B6 := B5.set 0 (.slice (some ⟨lb, 0, none⟩) n c5)
       have hs5 := g5.size
       have hX : ∀ k, k ≠ m + 1 + 1 + 1 → (w5.setCell ⟨m + 1 + 1 + 1, 0, none⟩ (.slice (some ⟨lb, 0, none⟩) n c5)).heap[k]? = w5.heap[k]? := fun k hk => Below.heap_setCell _ _ _ _ (by simp only; omega)
       go_ret
       refine newA_end (n := n) hm (((bw.grown g5 (by omega) (fun k hk => by cases hk))).setCell (by simp only; omega) _) B6 ((hX _ (by omega)).trans ((g5.block _ (by omega) (by simp)).trans t1)) ((hX _ (by omega)).trans ((g5.block _ (by omega) (by simp)).trans t2)) ⟨by simp [World.setCell]; omega, fun j x hx => (World.cell?_of_block (hX lb (by omega))).trans (hls j x hx)⟩ ⟨by omega, by omega, by omega, by omega⟩ ⟨by omega, by omega, by omega, by omega, by omega, by omega⟩ HR.out.2.1 HR.out.2.2.1)
    | (rw [show V312.heap.size = m + 1 + 1 + 1 from H312.out.2]
       obtain ⟨⟨b1, t1, t2, t3⟩, hs⟩ := H312.out
       obtain ⟨U, hU⟩ : ∃ U, (V312.alloc (.cells #[.slice none 0 0, .int .i64 need, .slice (some ⟨m + 1, 0, none⟩) n n, .slice (some ⟨m + 1 + 1, 0, none⟩) n n, .slice (some ⟨m, 0, none⟩) n n] 81)).drew = U := ⟨_, rfl⟩
       have BU : Bn (m + 1 + 1 + 1) 81 [.slice none 0 0, .int .i64 need, .slice (some ⟨m + 1, 0, none⟩) n n, .slice (some ⟨m + 1 + 1, 0, none⟩) n n, .slice (some ⟨m, 0, none⟩) n n] U := by
         have h := heap_alloc_new V312 (.cells #[.slice none 0 0, .int .i64 need, .slice (some ⟨m + 1, 0, none⟩) n n, .slice (some ⟨m + 1 + 1, 0, none⟩) n n, .slice (some ⟨m, 0, none⟩) n n] 81)
         rw [hs] at h
         rw [← hU]
         exact h
       have bU : Below (m + 3) V312 U := by rw [← hU]; exact ((Below.refl _ _).alloc (by omega) _).drew
       have sU : U.heap.size = m + 4 := by rw [← hU]; show (V312.alloc _).heap.size = m + 4; simp [hs]
       have bw : Below m w U := by rw [hm] at b1; exact b1.trans (bU.mono (by omega))
       have hrU : Ns .i64 U m A ls := by have h := HR.out.1; rw [hm] at h; exact h.below bw
       have x0 := (BU.cell 0).trans rfl
       have T := Lib.hid (And.intro bw (And.intro (show U.heap[m + 1]? = some (O1 n) from (bU.block _ (by omega)).trans t1) (And.intro (show U.heap[m + 1 + 1]? = some (O2 n) from (bU.block _ (by omega)).trans t2) (And.intro BU hrU))))
       rw [hU]
       clear hU bU b1 t1 t2 t3 hs bw BU hrU hm1 hm2 hm3
       go_wp2_with (at_builtin; refine wpList_append_ns _ rfl _ _ _ rfl (m + 4) 3 i0 _ 8 Try.underlying22 HI.out.1 HI.out.2.1 HI.out.2.2.1 HI.out.2.2.2 rfl _ 0 [] rfl (World.ownsRow_nil _ _ _ _) .i64 m A n c ls HR.out.2.1 rfl T.out.2.2.2.2 (by omega) (by omega) (by omega) ?_; intro v5 w5 o5 g5 _; rw [Nat.zero_add, List.nil_append] at o5; obtain ⟨A5, c5, rfl⟩ := own_form o5
                    have g5' : U.grownBy w5 none := g5
                    have B5 := T.out.2.2.2.1.kept g5' (by simp)
                    have z5 := B5.frozen 0
                    have y5 := (B5.cell 0).trans rfl
                    have G := Lib.hid (And.intro o5 (And.intro g5' B5))
                    clear o5 g5 g5' B5)
       obtain ⟨o5, g5, B5⟩ := G.out
       obtain ⟨bw, t1, t2, BU, hrU⟩ := T.out
       obtain ⟨lb, rfl, hlb, hlt, hls⟩ := own_list o5 HR.out.2.1 hn1
       have B6 := B5.set 0 (.slice (some ⟨lb, 0, none⟩) n c5)
       have hs5 := g5.size
       have hX : ∀ k, k ≠ m + 1 + 1 + 1 → (w5.setCell ⟨m + 1 + 1 + 1, 0, none⟩ (.slice (some ⟨lb, 0, none⟩) n c5)).heap[k]? = w5.heap[k]? := fun k hk => Below.heap_setCell _ _ _ _ (by simp only; omega)
       go_ret
       refine newA_end (n := n) hm (((bw.grown g5 (by omega) (fun k hk => by cases hk))).setCell (by simp only; omega) _) B6 ((hX _ (by omega)).trans ((g5.block _ (by omega) (by simp)).trans t1)) ((hX _ (by omega)).trans ((g5.block _ (by omega) (by simp)).trans t2)) ⟨by simp [World.setCell]; omega, fun j x hx => (World.cell?_of_block (hX lb (by omega))).trans (hls j x hx)⟩ ⟨by omega, by omega, by omega, by omega⟩ ⟨by omega, by omega, by omega, by omega, by omega, by omega⟩ HR.out.2.1 HR.out.2.2.1)
    | (rw [show V321.heap.size = m + 1 + 1 + 1 from H321.out.2]
       obtain ⟨⟨b1, t1, t2, t3⟩, hs⟩ := H321.out
       obtain ⟨U, hU⟩ : ∃ U, (V321.alloc (.cells #[.slice none 0 0, .int .i64 need, .slice (some ⟨m + 1 + 1, 0, none⟩) n n, .slice (some ⟨m + 1, 0, none⟩) n n, .slice (some ⟨m, 0, none⟩) n n] 81)).drew = U := ⟨_, rfl⟩
       have BU : Bn (m + 1 + 1 + 1) 81 [.slice none 0 0, .int .i64 need, .slice (some ⟨m + 1 + 1, 0, none⟩) n n, .slice (some ⟨m + 1, 0, none⟩) n n, .slice (some ⟨m, 0, none⟩) n n] U := by
         have h := heap_alloc_new V321 (.cells #[.slice none 0 0, .int .i64 need, .slice (some ⟨m + 1 + 1, 0, none⟩) n n, .slice (some ⟨m + 1, 0, none⟩) n n, .slice (some ⟨m, 0, none⟩) n n] 81)
         rw [hs] at h
         rw [← hU]
         exact h
       have bU : Below (m + 3) V321 U := by rw [← hU]; exact ((Below.refl _ _).alloc (by omega) _).drew
       have sU : U.heap.size = m + 4 := by rw [← hU]; show (V321.alloc _).heap.size = m + 4; simp [hs]
       have bw : Below m w U := by rw [hm] at b1; exact b1.trans (bU.mono (by omega))
       have hrU : Ns .i64 U m A ls := by have h := HR.out.1; rw [hm] at h; exact h.below bw
       have x0 := (BU.cell 0).trans rfl
       have T := Lib.hid (And.intro bw (And.intro (show U.heap[m + 1 + 1]? = some (O1 n) from (bU.block _ (by omega)).trans t1) (And.intro (show U.heap[m + 1]? = some (O2 n) from (bU.block _ (by omega)).trans t2) (And.intro BU hrU))))
       rw [hU]
       clear hU bU b1 t1 t2 t3 hs bw BU hrU hm1 hm2 hm3
       go_wp2_with (at_builtin; refine wpList_append_ns _ rfl _ _ _ rfl (m + 4) 3 i0 _ 8 Try.underlying22 HI.out.1 HI.out.2.1 HI.out.2.2.1 HI.out.2.2.2 rfl _ 0 [] rfl (World.ownsRow_nil _ _ _ _) .i64 m A n c ls HR.out.2.1 rfl T.out.2.2.2.2 (by omega) (by omega) (by omega) ?_; intro v5 w5 o5 g5 _; rw [Nat.zero_add, List.nil_append] at o5; obtain ⟨A5, c5, rfl⟩ := own_form o5
                    have g5' : U.grownBy w5 none := g5
                    have B5 := T.out.2.2.2.1.kept g5' (by simp)
                    have z5 := B5.frozen 0
                    have y5 := (B5.cell 0).trans rfl
                    have G := Lib.hid (And.intro o5 (And.intro g5' B5))
                    clear o5 g5 g5' B5)
       obtain ⟨o5, g5, B5⟩ := G.out
       obtain ⟨bw, t1, t2, BU, hrU⟩ := T.out
       obtain ⟨lb, rfl, hlb, hlt, hls⟩ := own_list o5 HR.out.2.1 hn1
       have B6 := B5.set 0 (.slice (some ⟨lb, 0, none⟩) n c5)
       have hs5 := g5.size
       have hX : ∀ k, k ≠ m + 1 + 1 + 1 → (w5.setCell ⟨m + 1 + 1 + 1, 0, none⟩ (.slice (some ⟨lb, 0, none⟩) n c5)).heap[k]? = w5.heap[k]? := fun k hk => Below.heap_setCell _ _ _ _ (by simp only; omega)
       go_ret
       refine newA_end (n := n) hm (((bw.grown g5 (by omega) (fun k hk => by cases hk))).setCell (by simp only; omega) _) B6 ((hX _ (by omega)).trans ((g5.block _ (by omega) (by simp)).trans t1)) ((hX _ (by omega)).trans ((g5.block _ (by omega) (by simp)).trans t2)) ⟨by simp [World.setCell]; omega, fun j x hx => (World.cell?_of_block (hX lb (by omega))).trans (hls j x hx)⟩ ⟨by omega, by omega, by omega, by omega⟩ ⟨by omega, by omega, by omega, by omega, by omega, by omega⟩ HR.out.2.1 HR.out.2.2.1)
end Quorum
end Go.Proofs.Ytbhidndgnldheaa

/-
  A node answers the document's asking with versions.
-/
namespace Go.Proofs.Ytbhidndgnldheaa
namespace Quorum
open Go.RowKit Vers Span Blk
attribute [local go_sem ↓] Go.wp_at_zero Go.wp_at_succ

set_option maxRecDepth 100000 in
set_option maxHeartbeats 1000000 in
theorem gotA_no {T : TypeId} {F : Nat → Prop} {w : World} {rb n lb cl cb ab : Nat} {need : Int} {l : List En} {x : List Value} {ps : List Plc} (h : Core T F w rb need l n lb cl cb ab x) (_ha : Ans F w l ps cb ab) (node : Int) (Aa : Option Addr) (ca m : Nat) (an : List Vr) (hm : an.length = m) (hbig : m ≤ 140737488355328) (hv : Vs w 0 w.heap.size Aa an) (hc : (gotF l node an).1 = false) :
    Calls Try.prog 20 #[hd rb, .int .i64 node, .slice Aa m ca] w (fun e w' => e = .returned (.bool false) ∧ Below w.heap.size w w') := by
  have HP := Lib.hid (place_any h node)
  have HRI := Lib.hid (ref_rightV_any Aa ca m an hm w hv hbig)
  rcases place_count l node an with ⟨h1, h2⟩ | ⟨i, an0, h1, he, h2⟩
  · rw [h1] at HP
    clear h h1 h2 hc HRI
    go_enter Try.func20, Try.ntmps20
    go_wp2_with fail
    refine HP.out.mono ?_
    rintro e w1 ⟨rfl, rfl⟩
    go_wp2_with fail
    go_ret
    exact ⟨rfl, Below.refl _ _⟩
  · rw [h1] at HP
    have hr : ¬ RightV an := fun hr => by
      unfold gotF at hc
      rw [if_pos hr, h2] at hc
      cases hc
    rw [decide_eq_false hr] at HRI
    have d1 : ¬ (i : Int) < 0 := by omega
    clear h h1 h2 hc he
    go_enter Try.func20, Try.ntmps20
    go_wp2_with fail
    refine HP.out.mono ?_
    rintro e w1 ⟨rfl, rfl⟩
    go_wp2_with fail
    refine HRI.out.mono ?_
    rintro e w2 ⟨rfl, b2⟩
    have HB := Lib.hid b2
    clear b2
    go_wp2_with fail
    go_ret
    exact ⟨rfl, HB.out⟩
set_option maxRecDepth 100000 in
set_option maxHeartbeats 1000000 in
theorem gotA_yes {T : TypeId} {F : Nat → Prop} {w : World} {rb n lb cl cb ab : Nat} {need : Int} {l : List En} {x : List Value} {ps : List Plc} (h : Core T F w rb need l n lb cl cb ab x) (ha : Ans F w l ps cb ab) (node : Int) (Aa : Option Addr) (ca m : Nat) (an : List Vr) (hm : an.length = m) (B : Nat) (hv : Vs w 0 B Aa an) (hBs : B ≤ w.heap.size) (hFB : ∀ k, F k → B ≤ k) {l' : List En} (hc : gotF l node an = (true, l')) :
    Calls Try.prog 20 #[hd rb, .int .i64 node, .slice Aa m ca] w (fun e w' => e = .returned (.bool true) ∧ Hid (∃ F' ps', Core T F' w' rb need l' n lb cl cb ab x ∧ Ans F' w' l' ps' cb ab ∧ Stp F w F' w')) := by
  have HP := Lib.hid (place_any h node)
  have hr : RightV an := by
    unfold gotF at hc
    by_cases hr : RightV an
    · exact hr
    · rw [if_neg hr] at hc
      cases hc
  have hm4 : m ≤ 512 := by rw [← hm]; exact hr.1
  have HRI := Lib.hid (ref_rightV_any Aa ca m an hm w (hv.more hBs) (by omega))
  rw [decide_eq_true hr] at HRI
  unfold gotF at hc
  rw [if_pos hr] at hc
  rcases place_count l node an with ⟨h1, h2⟩ | ⟨i, an0, h1, he, h2⟩
  · rw [hc] at h2
    cases h2
  rw [hc] at h2
  injection h2 with _ q2
  subst q2
  rw [h1] at HP
  have hin : i < n := by rw [← h.len]; exact (List.getElem?_eq_some_iff.1 he).1
  have hn8 : n ≤ 8 := h.1.2.2.2
  have d0 : ¬ (i : Int) < 0 := by omega
  have d1 : (0 : Int) ≤ (i : Int) := by omega
  have d2 : (i : Int) < (n : Int) := by omega
  have HH := Lib.hid (And.intro h (And.intro ha (And.intro he (And.intro hv (And.intro hBs hFB)))))
  have HRR := Lib.hid hr
  have HMM := Lib.hid hm
  clear h ha he hv hc h1 hm hr hBs hFB
  go_enter Try.func20, Try.ntmps20
  go_wp2_with fail
  refine HP.out.mono ?_
  rintro e w1 ⟨rfl, rfl⟩
  go_wp2_with fail
  refine HRI.out.mono ?_
  rintro e w2 ⟨rfl, b2⟩
  obtain ⟨h, ha, he, hv, hBs, hFB⟩ := HH.out
  have hB := h.below b2
  have hA := ha.below b2
  obtain ⟨x0, x1, x2, x3⟩ := hB.head
  have z0 := hB.2.2.1.frozen i
  obtain ⟨y0, y1⟩ := hB.at he
  simp only at y0 y1
  obtain ⟨W1, hW1⟩ : ∃ W, w2.setCell ⟨cb, i, none⟩ (.bool true) = W := ⟨_, rfl⟩
  have hcore : Core T F W1 rb need (l.set i (node, true, an)) n lb cl cb ab x := by rw [← hW1]; exact hB.mark he an
  have g1 := gset w2 cb i (.bool true)
  have hne := h.2.2.2.2
  have hFc := hFB cb h.2.2.2.1.2.2.1
  have hs2 := b2.size
  have hans : Ans F (w2.setCell ⟨cb, i, none⟩ (.bool true)) l ps cb ab := hA.keep g1.size (g1.block ab hA.2.1.lt (by intro e; injection e with e; exact hne.2.2.2.2.1 e.symm)) fun k hk h1 _ => g1.block k (hB.lt k hk) (by intro e; injection e with e; exact h1 e)
  have hv1 : Vs (w2.setCell ⟨cb, i, none⟩ (.bool true)) 0 B Aa an := (hv.below (b2.mono hBs)).keep fun p p1 p2 => World.cell?_of_block (g1.block p.block (by omega) (by intro e; injection e with e; omega))
  obtain ⟨p, hp, u0, _⟩ := hans.at he
  have u1 := hans.2.1.frozen i
  obtain ⟨v0', v1', v2', v3'⟩ := hcore.head
  rw [hW1] at g1 hans hv1 u0 u1
  have hs1 := g1.size
  have hwd : Below W1.heap.size W1 W1.drew := (Below.refl _ _).drew
  have HOWN := Lib.hid (fun key => Own.own_any key Aa ca m an HMM.out (by omega) (fun v hv => by have := right_past HRR.out v hv; omega) W1.drew ((hv1.below (hwd.mono (by omega))).more (by show B ≤ W1.heap.size; omega)))
  have HCA : Hid (∀ V, Below W1.heap.size W1 V → Core T F V rb need (l.set i (node, true, an)) n lb cl cb ab x ∧ Ans F V l ps cb ab) := Lib.hid fun V hV => ⟨hcore.below hV, hans.below hV⟩
  have HW1 := Lib.hid hW1
  have HB2 := Lib.hid (And.intro b2 (And.intro g1 (And.intro hs1 hs2)))
  have hcf : ∀ (a : Array Value) (w : World), (callFunc 42 a).run Try.prog w = .ok (.enter 42 a) w := fun a w => by simp [go_sem]
  clear h ha he hv hBs hFB hB hA hans hv1 hcore g1 hne hFc hs1 hs2 b2 hW1 v0' v1' v2' hp
  go_upto_region 5 with fail
  rw [HW1.out]
  clear x0 x1 x2 x3 y0 y1 z0
  have x3 : W1.drew.cell? ⟨rb, 3, none⟩ = some (.slice (some ⟨ab, 0, none⟩) n n) := v3'
  have hfd : ∀ (a b : Value) (W : World), (Instr.field 89 (.agg #[a, b]) 1).run Try.prog W = .ok b W := fun a b W => by first | rfl | kernel_rfl | simp [go_sem, Try.underlying89]
  go_region_law (first
    | (refine step_call (by rfl) 42 _ _ (by rfl) (hcf _ _) _ (by simp [Act.eval, Act.put]; rfl) (HOWN.out _) (fun e w' h => by obtain ⟨_, _, _, rfl, _⟩ := h; exact ⟨_, rfl⟩) ?_; rintro v2 w3 ⟨A1, c1, qs, hv2, hq, b3⟩; injection hv2 with hv2; subst hv2; have hbw := hwd.trans (b3.mono hwd.size); have x3 := (HCA.out w3 hbw).1.head.2.2.2; obtain ⟨p3, hp3, u3, _⟩ := (HCA.out w3 hbw).2.at HH.out.2.2.1; have u4 := (HCA.out w3 hbw).2.2.1.frozen i))
  all_goals
    obtain ⟨h0, _, he, _, _, _⟩ := HH.out
    obtain ⟨b2, g1, hs1, hs2⟩ := HB2.out
    obtain ⟨h3, hA3⟩ := HCA.out w3 hbw
    have hs3 : W1.heap.size ≤ w3.heap.size := hbw.size
    have hcb := h0.lt cb h0.2.2.2.1.2.2.1
    have hab := h0.lt ab h0.2.2.2.1.2.2.2.1
    have hc3 := h3.wide (F' := fun k => F k ∨ (W1.heap.size ≤ k ∧ k < w3.heap.size)) (fun _ h => .inl h) (fun k hk => hk.elim (h3.lt k) fun h => h.2)
    have ha3 := hA3.wide (F' := fun k => F k ∨ (W1.heap.size ≤ k ∧ k < w3.heap.size)) fun _ h => .inl h
    have hvs := Code.RowV.vs hq.out.2 (Nat.le_refl _)
    rw [hq.out.1] at hvs
    have hlen := own_len hq.out.2.1
    have hlay := ha3.lay he hvs (Nat.le_refl _) (by rw [HMM.out]; exact hlen.2) (by rw [HMM.out]; omega) (fun k q1 q2 => ⟨.inr ⟨q1, q2⟩, by (have q1' : W1.heap.size ≤ k := q1); omega, by (have q1' : W1.heap.size ≤ k := q1); omega⟩)
    rw [HMM.out] at hlay
    have g2 := gset w3 ab i (.slice A1 m c1)
    have hcore2 : Core T (fun k => F k ∨ (W1.heap.size ≤ k ∧ k < w3.heap.size)) (w3.setCell ⟨ab, i, none⟩ (.slice A1 m c1)) rb need (l.set i (node, true, an)) n lb cl cb ab x := by
      obtain ⟨⟨c1', c2, c2'⟩, ⟨c3, c4⟩, c5, ⟨f1, f2, f3, f4, f5⟩, c7⟩ := hc3
      have nb : ∀ k, k ≠ ab → k < w3.heap.size → (w3.setCell ⟨ab, i, none⟩ (.slice A1 m c1)).heap[k]? = w3.heap[k]? := fun k h1 h2 => g2.block k h2 (by intro e; injection e with e; exact h1 e)
      exact ⟨⟨c1'.same (nb rb c7.2.2.2.1 c1'.lt), c2, c2'⟩, ⟨Nat.lt_of_lt_of_le c3 g2.size, fun j e hj => (World.cell?_of_block (nb lb c7.2.1 c3)).trans (c4 j e hj)⟩, c5.same (nb cb c7.2.2.2.2.1 c5.lt), ⟨f1, f2, f3, f4, fun k hk => Nat.lt_of_lt_of_le (f5 k hk) g2.size⟩, c7⟩
    have hchg := (((Chg.of_below (F := F) b2).trans (Chg.of_grown g1 (F := F) fun g e => by injection e with e; rw [← e]; exact h0.2.2.2.1.2.2.1) fun k hk => .inl hk).trans (Chg.of_below (F := F) hbw) fun k hk => .inl hk).trans (Chg.of_grown g2 (F := F) fun g e => by injection e with e; rw [← e]; exact h0.2.2.2.1.2.2.2.1) fun k hk => .inl hk
    have HK := Lib.hid (And.intro hcore2 (And.intro hlay hchg))
    clear h0 b2 g1 h3 hA3 hc3 ha3 hvs hlen hlay g2 hcore2 hchg hq b3 x3 u3 u4 hp3
    go_wp2_with fail
    go_ret
    exact ⟨rfl, Lib.hid ⟨_, HK.out.1, ⟨_, HK.out.2.1⟩, HK.out.2.2, fun k hk => hk.elim .inl fun h => .inr (by omega)⟩⟩
end Quorum
end Go.Proofs.Ytbhidndgnldheaa

/-
  What the document takes of all is what comes of the counted.
-/
namespace Go.Proofs.Ytbhidndgnldheaa
namespace Quorum
open Vers

theorem right_none : RightV [] := by
  refine ⟨by simp, ?_, by simp⟩
  unfold FineV
  simp
theorem mrg_none {a : List Vr} (h : RightV a) : mrg a [] = a := by
  have ht : ¬ Vers.Twin a [] := fun ⟨_, _, y, hy, _⟩ => absurd hy (by simp)
  have hb : ∀ s n, ¬ Vers.behind [] s n := fun s n hb => by simp [Vers.behind] at hb
  have ha : IsStay a [] a := ⟨h.2.1.2, fun v => ⟨fun hv => ⟨.inl hv, h.2.2 v hv, hb _ _⟩, fun hv => hv.1.elim id fun e => absurd e (by simp)⟩⟩
  have e : stayF a [] = a := (stay_one h right_none ht ha).symm
  unfold mrg
  rw [merge_ok h right_none ht (by rw [e]; have := h.1; omega), e]
  simp
theorem mrg_right {a b : List Vr} (h : RightV a) : RightV (mrg a b) := by
  unfold mrg
  split
  · next h0 =>
    exact (merge_right (a := a) (b := b) (r := (mergeF a b).1) (by rw [← h0])).2.2.2.2
  · exact h
theorem vers_right (l : List En) : RightV (versF l) := by
  refine snoc_induct (P := fun l => RightV (versF l)) right_none ?_ l
  intro l x h
  rw [vers_snoc]
  split
  · exact mrg_right h
  · exact h
/-- Who isn't counted has answered nothing. -/
def Mute (l : List En) : Prop := ∀ e ∈ l, e.2.1 = false → e.2.2 = []
theorem doc_vers (l : List En) (h : Mute l) : docF l = versF l := by
  revert h
  refine snoc_induct (P := fun l => Mute l → docF l = versF l) (fun _ => rfl) ?_ l
  intro l x ih h
  rw [doc_snoc, vers_snoc, ih fun e he => h e (List.mem_append_left _ he)]
  split
  · rfl
  · next hx =>
    rw [h x (by simp) (by simpa using hx), mrg_none (vers_right l)]
theorem mute_start (ls : List Int) : Mute (startF ls) := fun e he _ => by
  unfold startF at he
  obtain ⟨x, _, rfl⟩ := List.mem_map.1 he
  rfl
theorem mute_count {l : List En} {node : Int} {a : List Vr} {b : Bool} {l' : List En} (h : Mute l) (hc : countF l node a = (b, l')) : Mute l' := by
  unfold countF at hc
  split at hc
  · injection hc with _ e
    subst e
    intro x hx hf
    rcases List.mem_or_eq_of_mem_set hx with h1 | rfl
    · exact h x h1 hf
    · cases hf
  · injection hc with _ e
    subst e
    exact h
end Quorum
end Go.Proofs.Ytbhidndgnldheaa
