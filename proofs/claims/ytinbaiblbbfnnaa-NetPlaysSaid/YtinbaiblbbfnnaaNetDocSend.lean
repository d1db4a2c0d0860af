/-
  The document's Send and Copy (layer 8).
-/
import Derived.Test.YtinbaiblbbfnnaaNetDocGone
import Derived.Test.YtinbaiblbbfnnaaNetTake
namespace Go.Proofs.Ytinbaiblbbfnnaa
namespace Net
open Go.RowKit Blk
attribute [local go_sem ↓] Go.wp_at_zero Go.wp_at_succ
section
variable {F : Nat → Prop} {w v w7 : World} {mb : Nat} {A : Option Addr} {c n : Nat} {l : List PE} {B : Option Addr} {q k : Nat} {cs : List Ct} {s t u : Int}
/-- A packet more. -/
theorem RN.push {g7 cap7 B0 : Nat} (h : RN F w mb A c n l B q k cs s t u) (hb : Below w.heap.size w v) (x : PE) (hx : v.ownsRow w.heap.size 5 1 (dV x) x.1.2.2.length (nums .u8 x.1.2.2)) (hok : OkP x.1)
    (ho7 : w7.ownsRow 0 36 5 (.slice (some ⟨g7, 0, none⟩) (n + 1) cap7) (n + 1) (pcs l ++ pc x)) (hg7 : v.grownBy w7 (Value.slice A n c).ownBlock) (hat : (Value.slice A n c).ownBlock = some g7 ∨ g7 = B0) (hB : w.heap.size ≤ B0) (hlt : g7 < w7.heap.size) :
    RN (fun j => F j ∨ (w.heap.size ≤ j ∧ j < w7.heap.size)) (w7.setCell ⟨mb, 0, none⟩ (.slice (some ⟨g7, 0, none⟩) (n + 1) cap7)) mb (some ⟨g7, 0, none⟩) cap7 (n + 1) (l ++ [x]) B q k cs s t u ∧
    Stp F w (fun j => F j ∨ (w.heap.size ≤ j ∧ j < w7.heap.size)) (w7.setCell ⟨mb, 0, none⟩ (.slice (some ⟨g7, 0, none⟩) (n + 1) cap7)) := by
  have hk : ∀ j, F j → (Value.slice A n c).ownBlock ≠ some j → w7.heap[j]? = w.heap[j]? := fun j hj hne => by
    have hl := h.lt j hj
    exact (hg7.block j (Nat.lt_of_lt_of_le hl hb.size) fun e => hne e.symm).trans (hb.block j hl)
  have hsz : w.heap.size ≤ w7.heap.size := Nat.le_trans hb.size hg7.size
  have hA := h.2.2.2.2.1
  have hd : w7.ownsRow w.heap.size 5 1 (dV x) x.1.2.2.length (nums .u8 x.1.2.2) := own_keep hx fun g hg => hg7.block g (hx.lt g hg).2 fun e => by
    have h1 := (h.below hb).2.1.2.1
    exact own_ne2 hx h1 (by decide) hg e.symm
  refine ⟨?_, ?_, fun j hj => hj.imp id fun e => e.1⟩
  · refine h.relist hsz hk (fun _ => .inl) (fun j hj => hj.elim (fun hj => Nat.lt_of_lt_of_le (h.lt j hj) hsz) fun hj => hj.2) (by rw [List.length_append, h.2.1.1]; rfl) (by rw [pcs_append, pcs_one]; exact ho7) (fun g hg => ?_) fun y hy => ?_
    · have hg' : g7 = g := by injection hg
      subst hg'
      rcases hat with e | e
      · exact .inl (hA _ e)
      · exact .inr ⟨by omega, hlt⟩
    · rcases List.mem_append.1 hy with hy | hy
      · exact h.pks hk (fun _ => .inl) y hy
      · rw [List.mem_singleton] at hy
        subst hy
        exact ⟨own_base0 hd, fun g hg => .inr (hd.lt g hg), hok⟩
  · exact ((Chg.of_below hb).trans (Chg.of_grown hg7 fun g hg => hA g hg) fun _ => .inl).trans (Chg.of_grown (gset w7 mb 0 _) fun g hg => by injection hg with hg; subst hg; exact h.mbF) fun _ => .inl
theorem doc_send_full (h : RN F w mb A c n l B q k cs s t u) (hf : 4096 ≤ n) (a1 a2 b1 b2 : Int) (v : Value) :
    Calls Try.prog 24 #[.pointer (some ⟨mb, 0, none⟩), .agg #[.int .i64 a1, .int .i64 a2, .int .i64 b1, .int .i64 b2, v]] w (fun e w' => e = .returned (.bool false) ∧ Below w.heap.size w w') := by
  obtain ⟨U, hU⟩ : ∃ U, w.alloc (.cells #[.int .i64 a1, .int .i64 a2, .int .i64 b1, .int .i64 b2, v] 36) = U := ⟨_, rfl⟩
  have hb : Below w.heap.size w U := by rw [← hU]; exact (Below.refl _ w).alloc (Nat.le_refl _) _
  obtain ⟨m0, _, _, _, _⟩ := (h.below hb).head
  have d1 : decide ((4096 : Int) ≤ (n : Int)) = true := decide_eq_true (by omega)
  have HB := Lib.hid hb
  clear h hb hf
  go_enter Try.func24, Try.ntmps24
  go_wp2_with fail
  go_ret
  exact ⟨rfl, HB.out⟩
set_option maxRecDepth 100000 in
set_option maxHeartbeats 2000000 in
theorem doc_send_more (h : RN F w mb A c n l B q k cs s t u) (hf : n < 4096) (a1 a2 b1 b2 : Int) (zs : List Int) (kz : Nat) (hk : zs.length = kz) (Ad : Option Addr) (cd : Nat) (hr : Ns .u8 w w.heap.size Ad zs) (hok : OkP ((a1, a2), (b1, b2), zs)) :
    Calls Try.prog 24 #[.pointer (some ⟨mb, 0, none⟩), .agg #[.int .i64 a1, .int .i64 a2, .int .i64 b1, .int .i64 b2, .slice Ad kz cd]] w (fun e w' => e = .returned (.bool true) ∧ ∃ F' A' c' Ax cx, Hid (RN F' w' mb A' c' (n + 1) (l ++ [(((a1, a2), (b1, b2), zs), Ax, cx)]) B q k cs (IntKind.i64.wrap (s + 1)) t u ∧ Stp F w F' w')) := by
  obtain ⟨i0, hi0, hz0, hz1, hz2⟩ := info_parts info_pkt
  obtain ⟨U, hU⟩ : ∃ U, w.alloc (.cells #[.int .i64 a1, .int .i64 a2, .int .i64 b1, .int .i64 b2, .slice Ad kz cd] 36) = U := ⟨_, rfl⟩
  have hb : Below w.heap.size w U := by rw [← hU]; exact (Below.refl _ w).alloc (Nat.le_refl _) _
  have hB : Bn w.heap.size 36 [.int .i64 a1, .int .i64 a2, .int .i64 b1, .int .i64 b2, .slice Ad kz cd] U := by rw [← hU]; exact heap_alloc_new w _
  have hSU := h.below hb
  obtain ⟨x0, _, _, _, _⟩ := hSU.head
  have x1 := hB.cell 0
  have x2 := hB.cell 1
  have x3 := hB.cell 2
  have x4 := hB.cell 3
  have x5 := hB.cell 4
  simp only [List.getElem?_cons_zero, List.getElem?_cons_succ] at x1 x2 x3 x4 x5
  have d1 : decide ((4096 : Int) ≤ (n : Int)) = false := decide_eq_false (by omega)
  have H3 := Lib.hid (doc_own U.drew a1 a2 b1 b2 zs kz hk Ad cd ((hr.below hb).more hb.size) (by have := hok.2.1; simp only at this; omega))
  have hcf : ∀ (a : Array Value) (w : World), (callFunc 37 a).run Try.prog w = .ok (.enter 37 a) w := fun a w => by simp [go_sem]
  have HS := Lib.hid (And.intro hSU (And.intro hb (And.intro hok (And.intro hk h))))
  clear hb h hB hSU hr hok hk
  go_enter Try.func24, Try.ntmps24
  go_wp2_with fail
  go_region_law (first
    | (refine step_call (by rfl) 37 _ _ (by rfl) (hcf _ _) #[.agg #[.int .i64 a1, .int .i64 a2, .int .i64 b1, .int .i64 b2, .slice Ad kz cd]] (by simp [Act.eval]) (H3.out) (fun e w' h => by obtain ⟨_, _, rfl, _⟩ := h; exact ⟨_, rfl⟩) ?_; rintro v2 w2 ⟨A1, c1, hv2, o2, bb2⟩; injection hv2 with hv2; subst hv2; obtain ⟨q0, _, _, _, _⟩ := (HS.out.1.below (show Below U.heap.size U w2 from (show Below U.heap.size U U.drew from (Below.refl _ U).drew).trans bb2)).head; obtain ⟨p0, _, _, _, _⟩ := (HS.out.1.below ((show Below U.heap.size U w2 from (show Below U.heap.size U U.drew from (Below.refl _ U).drew).trans bb2).alloc bb2.size (.cells #[.int .i64 a1, .int .i64 a2, .int .i64 b1, .int .i64 b2, .slice A1 kz c1] 36))).head)
    | (refine step_append_lies _ (by rfl) _ _ _ (by rfl) 0 36 i0 _ 5 56 Try.underlying27 hi0 hz0 hz1 hz2 (by rfl) (by omega) (.slice A n c) n (pcs _) (by rfl) (HS.out.1.below ((show Below U.heap.size U w2 from (show Below U.heap.size U U.drew from (Below.refl _ U).drew).trans bb2).alloc bb2.size (.cells #[.int .i64 a1, .int .i64 a2, .int .i64 b1, .int .i64 b2, .slice A1 kz c1] 36))).2.1.2.1 ⟨w2.heap.size, 0, none⟩ 1 1 [.int .i64 a1, .int .i64 a2, .int .i64 b1, .int .i64 b2, .slice A1 kz c1] (by rfl) (by rfl) (World.news_of_block (heap_alloc_new w2 _)) (by simp [Value.oneCell']) (by omega) (by unfold maxLen; omega) (by omega) (Nat.zero_le _) (w2.heap.size + 1) (by simp) ?_; intro g7 cap7 w7 o7 gr7 at7 hl7; have hB7 := (HS.out.1.below ((show Below U.heap.size U w2 from (show Below U.heap.size U U.drew from (Below.refl _ U).drew).trans bb2).alloc bb2.size (.cells #[.int .i64 a1, .int .i64 a2, .int .i64 b1, .int .i64 b2, .slice A1 kz c1] 36))); have r0 := (hB7.1.kept gr7 (fun q => own_ne hB7.2.1.2.1 hB7.1 (by decide) q.symm)).cell 0; have r1 := (hB7.1.kept gr7 (fun q => own_ne hB7.2.1.2.1 hB7.1 (by decide) q.symm)).frozen 0; simp only [List.getElem?_cons_zero] at r0))
  all_goals
    have hb2 : Below U.heap.size U w2 := (show Below U.heap.size U U.drew from (Below.refl _ U).drew).trans bb2
    have hP := HS.out.1.push (hb2.alloc hb2.size (.cells #[.int .i64 a1, .int .i64 a2, .int .i64 b1, .int .i64 b2, .slice A1 kz c1] 36)) (((a1, a2), (b1, b2), zs), A1, c1) (by have e := o2.out; have := HS.out.2.2.2.1; subst this; exact e.alloc _) HS.out.2.2.1 (by have := HS.out.2.2.2.1; subst this; exact o7) gr7 at7 (by have := hb2.size; omega) hl7
    obtain ⟨X, hX⟩ : ∃ V, w7.setCell ⟨mb, 0, none⟩ (.slice (some ⟨g7, 0, none⟩) (n + 1) cap7) = V := ⟨_, rfl⟩
    rw [hX] at hP
    obtain ⟨_, _, y2, _, _⟩ := hP.1.head
    have f2 := hP.1.frozen 2
    have HP := Lib.hid (And.intro hP (hP.1.count (r := 2) (v := .int .i64 (IntKind.i64.wrap (s + 1))) rfl))
    clear hP hb2 o2 o7 gr7 at7 hl7 hB7 bb2
    go_wp2_with fail
    go_ret
    rw [← Go.IntWalk.i64_left]
    exact ⟨rfl, _, _, _, A1, c1, Lib.hid ⟨HP.out.2.1, ((Stp.of_below HS.out.2.1).trans HP.out.1.2).trans HP.out.2.2⟩⟩
end
end Net
end Go.Proofs.Ytinbaiblbbfnnaa
