/-
  The document's Part (layer 8).
-/
import Derived.Test.YtinbaiblbbfnnaaNetDocFlip
import Derived.Test.YtinbaiblbbfnnaaNetPart
namespace Go.Proofs.Ytinbaiblbbfnnaa
namespace Net
open Go.RowKit Blk
attribute [local go_sem ↓] Go.wp_at_zero Go.wp_at_succ
section
variable {F : Nat → Prop} {w : World} {mb : Nat} {A : Option Addr} {c n : Nat} {l : List PE} {B : Option Addr} {q k : Nat} {cs : List Ct} {s t u : Int}
theorem info_pair : (Try.prog.info? 66).map (fun i => (i.zero, i.size, i.bytes)) = some (some (.agg #[.int .i64 0, .int .i64 0, .int .i64 0, .int .i64 0]), 4, 32) := by kernel_rfl
/-- Is a pair these two places? -/
def isC (e : Ct) (a b : Ad) : Bool := ((e.1 == a) && (e.2 == b)) || ((e.1 == b) && (e.2 == a))
theorem cutC_any (cs : List Ct) (a b : Ad) : cutC cs a b = cs.any fun e => isC e a b := rfl
/-- The pairs without these two places. -/
def lessC (cs : List Ct) (a b : Ad) : List Ct := cs.filter fun e => !isC e a b
/-- The pairs behind a Part. -/
def partL (cs : List Ct) (a b : Ad) (cut : Bool) : List Ct := lessC cs a b ++ if cut && !(eqA a b) then [(a, b)] else []
theorem less_step {cs : List Ct} {i : Nat} {e : Ct} (he : cs[i]? = some e) (a b : Ad) : lessC (cs.take (i + 1)) a b = lessC (cs.take i) a b ++ if isC e a b then [] else [e] := by
  unfold lessC
  rw [take_more he, List.filter_append]
  by_cases h : isC e a b = true
  · simp [h]
  · simp [h]
theorem isC_iff {e : Ct} {a b : Ad} : isC e a b = true ↔ (e.1 = a ∧ e.2 = b) ∨ (e.1 = b ∧ e.2 = a) := by simp [isC]
theorem cut_iff {cs : List Ct} {a b : Ad} : cutC cs a b = true ↔ ∃ e ∈ cs, (e.1 = a ∧ e.2 = b) ∨ (e.1 = b ∧ e.2 = a) := by
  rw [cutC_any, List.any_eq_true]
  exact ⟨fun ⟨e, h1, h2⟩ => ⟨e, h1, isC_iff.1 h2⟩, fun ⟨e, h1, h2⟩ => ⟨e, h1, isC_iff.2 h2⟩⟩
theorem part_mem {cs : List Ct} {a b : Ad} {cut : Bool} {e : Ct} : e ∈ partL cs a b cut ↔ (e ∈ cs ∧ ¬ ((e.1 = a ∧ e.2 = b) ∨ (e.1 = b ∧ e.2 = a))) ∨ (cut = true ∧ a ≠ b ∧ e = (a, b)) := by
  unfold partL lessC
  rw [List.mem_append, List.mem_filter]
  have h1 : (!isC e a b) = true ↔ ¬ ((e.1 = a ∧ e.2 = b) ∨ (e.1 = b ∧ e.2 = a)) := by rw [← isC_iff]; simp
  rw [h1]
  have h2 : eqA a b = true ↔ a = b := eqA_iff
  by_cases hc : cut = true <;> by_cases he : a = b
  · subst he; simp [hc, h2.2 rfl]
  · have : eqA a b = false := by rw [Bool.eq_false_iff]; exact fun h => he (h2.1 h)
    simp [hc, this, he]
  · simp [hc]
  · simp [hc]
/-- No place is parted from itself. -/
def NoSelf (cs : List Ct) : Prop := ∀ e ∈ cs, e.1 ≠ e.2
theorem NoSelf.part {cs : List Ct} (h : NoSelf cs) (a b : Ad) (cut : Bool) : NoSelf (partL cs a b cut) := fun e he => by
  rcases part_mem.1 he with ⟨h1, _⟩ | ⟨_, h2, rfl⟩
  · exact h e h1
  · exact h2
theorem cut_part_same {cs : List Ct} (h : NoSelf cs) (a : Ad) (cut : Bool) : cutC (partL cs a a cut) = cutC cs := by
  funext x y
  rw [Bool.eq_iff_iff, cut_iff, cut_iff]
  constructor
  · rintro ⟨e, he, hh⟩
    rcases part_mem.1 he with ⟨h1, _⟩ | ⟨_, h2, _⟩
    · exact ⟨e, h1, hh⟩
    · exact absurd rfl h2
  · rintro ⟨e, he, hh⟩
    refine ⟨e, part_mem.2 (.inl ⟨he, ?_⟩), hh⟩
    rintro (⟨h1, h2⟩ | ⟨h1, h2⟩)
    · exact h e he (h1.trans h2.symm)
    · exact h e he (h1.trans h2.symm)
theorem cut_part_diff (cs : List Ct) {a b : Ad} (hab : a ≠ b) (cut : Bool) : cutC (partL cs a b cut) = partC (cutC cs) a b cut 2 := by
  funext x y
  rw [Bool.eq_iff_iff, cut_iff]
  have hp : partC (cutC cs) a b cut 2 = oneC (oneC (cutC cs) a b cut) b a cut := rfl
  rw [hp]
  unfold oneC
  cases cut with
  | true =>
    simp only [if_true, Bool.or_eq_true, Bool.and_eq_true, beq_iff_eq, cut_iff]
    constructor
    · rintro ⟨e, he, hh⟩
      rcases part_mem.1 he with ⟨h1, _⟩ | ⟨_, _, rfl⟩
      · exact .inr (.inr ⟨e, h1, hh⟩)
      · rcases hh with ⟨h1, h2⟩ | ⟨h1, h2⟩
        · exact .inr (.inl ⟨h1.symm, h2.symm⟩)
        · exact .inl ⟨h2.symm, h1.symm⟩
    · rintro (⟨rfl, rfl⟩ | ⟨rfl, rfl⟩ | ⟨e, he, hh⟩)
      · exact ⟨(y, x), part_mem.2 (.inr ⟨rfl, hab, rfl⟩), .inr ⟨rfl, rfl⟩⟩
      · exact ⟨(x, y), part_mem.2 (.inr ⟨rfl, hab, rfl⟩), .inl ⟨rfl, rfl⟩⟩
      · by_cases hm : (e.1 = a ∧ e.2 = b) ∨ (e.1 = b ∧ e.2 = a)
        · refine ⟨(a, b), part_mem.2 (.inr ⟨rfl, hab, rfl⟩), ?_⟩
          rcases hm with ⟨h1, h2⟩ | ⟨h1, h2⟩ <;> rcases hh with ⟨h3, h4⟩ | ⟨h3, h4⟩
          · exact .inl ⟨h1.symm.trans h3, h2.symm.trans h4⟩
          · exact .inr ⟨h1.symm.trans h3, h2.symm.trans h4⟩
          · exact .inr ⟨h2.symm.trans h4, h1.symm.trans h3⟩
          · exact .inl ⟨h2.symm.trans h4, h1.symm.trans h3⟩
        · exact ⟨e, part_mem.2 (.inl ⟨he, hm⟩), hh⟩
  | false =>
    simp only [Bool.false_eq_true, if_false, Bool.and_eq_true, Bool.not_eq_true', Bool.and_eq_false_iff, cut_iff]
    have hb : ∀ u v : Ad, (u == v) = false ↔ u ≠ v := fun u v => by simp
    simp only [hb]
    constructor
    · rintro ⟨e, he, hh⟩
      rcases part_mem.1 he with ⟨h1, h2⟩ | ⟨h0, _⟩
      · have h3 : ¬ (x = b ∧ y = a) := fun ⟨e1, e2⟩ => h2 (by subst e1 e2; exact hh.symm)
        have h4 : ¬ (x = a ∧ y = b) := fun ⟨e1, e2⟩ => h2 (by subst e1 e2; exact hh)
        refine ⟨?_, ?_, e, h1, hh⟩
        · by_cases e1 : x = b
          · exact .inr fun e2 => h3 ⟨e1, e2⟩
          · exact .inl e1
        · by_cases e1 : x = a
          · exact .inr fun e2 => h4 ⟨e1, e2⟩
          · exact .inl e1
      · cases h0
    · rintro ⟨h1, h2, e, he, hh⟩
      refine ⟨e, part_mem.2 (.inl ⟨he, ?_⟩), hh⟩
      rintro (⟨h3, h4⟩ | ⟨h3, h4⟩) <;> rcases hh with ⟨h5, h6⟩ | ⟨h5, h6⟩
      · rcases h2 with h | h
        · exact h (h5.symm.trans h3)
        · exact h (h6.symm.trans h4)
      · rcases h1 with h | h
        · exact h (h6.symm.trans h4)
        · exact h (h5.symm.trans h3)
      · rcases h1 with h | h
        · exact h (h5.symm.trans h3)
        · exact h (h6.symm.trans h4)
      · rcases h2 with h | h
        · exact h (h6.symm.trans h4)
        · exact h (h5.symm.trans h3)
theorem part_len (cs : List Ct) (a b : Ad) (cut : Bool) : (partL cs a b cut).length ≤ cs.length + 1 := by
  unfold partL lessC
  rw [List.length_append]
  have := List.length_filter_le (fun e => !isC e a b) cs
  split <;> simp <;> omega
theorem wpList_append_ct {P : Program} {ops : Array Oper} {rest : List Oper} {o : Oper} {a : Act} {Q : Exit → Act → World → Prop} (hgd : o.guard = none) (s x : Operand) (t : TypeId)
    (ho : o.op = .call { callee := .builtin .append, args := #[s, x], argTypes := #[t, t] })
    (base : Nat) (e : TypeId) (i : TypeInfo) (z : Value) (bytes : Nat) (ht : P.underlying t = some (.slice e)) (hi : P.info? e = some i) (hz : i.zero = some z)
    (hsize : i.size = 4) (hby : i.bytes = bytes) (hzs : z.cells.size = 4)
    (v : Value) (n : Nat) (l : List Ct) (hs : a.eval s = v) (hown : w.ownsRow base e 4 v n (ccs l)) (y : Ct) (c : Nat)
    (hx : a.eval x = .slice (some ⟨w.heap.size, 0, none⟩) 1 c)
    (hbytes : (n + 1) * bytes ≤ 140737488355328) (hn : n + 1 ≤ 140737488355328) (hbase : base ≤ w.heap.size)
    (h : ∀ v' w', w'.ownsRow base e 4 v' (n + 1) (ccs (l ++ [y])) → w.grownBy w' v.ownBlock → (v'.ownBlock = v.ownBlock ∨ ∃ g, v'.ownBlock = some g ∧ w.heap.size ≤ g) → wpList P ops Q rest (a.put o.dst v') w') :
    wpList P ops Q (o :: rest) a (w.alloc (.cells #[.int .i64 y.1.1, .int .i64 y.1.2, .int .i64 y.2.1, .int .i64 y.2.2] e)) := by
  refine wpList_append_own_at _ hgd s x t ho base e i z 4 bytes ht hi hz hsize hby hzs (by omega) v n (ccs l) hs (hown.alloc _) ⟨w.heap.size, 0, none⟩ 1 c (cc y) hx rfl ?_ ?_ (by unfold maxLen; omega) hbytes (by simp; omega) ?_
  · intro j u' hj
    match j, hj with
    | 0, hj => simp [cc] at hj; subst hj; simp [Addr.add]
    | 1, hj => simp [cc] at hj; subst hj; simp [Addr.add]
    | 2, hj => simp [cc] at hj; subst hj; simp [Addr.add]
    | 3, hj => simp [cc] at hj; subst hj; simp [Addr.add]
  · intro u' hu
    simp [cc] at hu
    rcases hu with rfl | rfl | rfl | rfl <;> rfl
  · intro v' w' hown' hg _ hat
    refine h v' w' ?_ ?_ ?_
    · rw [ccs_append, ccs_one]; exact hown'
    · exact ⟨hg.os, hg.tape, hg.output, Nat.le_trans (by simp) hg.size, fun k hk hne => (hg.block k (by simp; omega) hne).trans (Below.heap_alloc w _ k hk)⟩
    · rcases hat with h1 | h1
      · exact .inl h1
      · exact .inr ⟨_, h1, by simp⟩
set_option maxRecDepth 100000 in
set_option maxHeartbeats 4000000 in
theorem doc_part (h : RN F w mb A c n l B q k cs s t u) (hbig : k ≤ 2000000000000) (a1 a2 b1 b2 : Int) (ha : okA (a1, a2)) (hb : okA (b1, b2)) (cut : Bool) :
    Calls Try.prog 29 #[.pointer (some ⟨mb, 0, none⟩), .agg #[.int .i64 a1, .int .i64 a2], .agg #[.int .i64 b1, .int .i64 b2], .bool cut] w (fun e w' => e = .returned (.tuple #[]) ∧ ∃ F' B' q' k', Hid (k' ≤ k + 1 ∧ RN F' w' mb A c n l B' q' k' (partL cs (a1, a2) (b1, b2) cut) s t u ∧ Stp F w F' w')) := by
  obtain ⟨i0, hi0, hz0, hz1, hz2⟩ := info_parts info_pair
  obtain ⟨pa, hpa⟩ : ∃ b, w.heap.size = b := ⟨_, rfl⟩
  obtain ⟨U1, hU1⟩ : ∃ V, w.alloc (.cells #[.int .i64 a1, .int .i64 a2] 33) = V := ⟨_, rfl⟩
  have b1' : Below w.heap.size w U1 := by rw [← hU1]; exact (Below.refl _ w).alloc (Nat.le_refl _) _
  have M1 : Bn pa 33 [.int .i64 a1, .int .i64 a2] U1 := by rw [← hU1, ← hpa]; exact heap_alloc_new w _
  obtain ⟨pb, hpb⟩ : ∃ b, U1.heap.size = b := ⟨_, rfl⟩
  obtain ⟨U, hU⟩ : ∃ V, U1.alloc (.cells #[.int .i64 b1, .int .i64 b2] 33) = V := ⟨_, rfl⟩
  have b2' : Below U1.heap.size U1 U := by rw [← hU]; exact (Below.refl _ U1).alloc (Nat.le_refl _) _
  have M2 : Bn pb 33 [.int .i64 b1, .int .i64 b2] U := by rw [← hU, ← hpb]; exact heap_alloc_new U1 _
  have M1' := M1.same (b2'.block pa M1.lt)
  have bU : Below w.heap.size w U := b1'.trans (b2'.mono b1'.size)
  have HX := Lib.hid (And.intro (h.below bU) (And.intro M1' (And.intro M2 (And.intro bU (And.intro ha (And.intro hb h))))))
  clear h M1 M1' M2 b1' b2' bU ha hb
  go_enter Try.func29, Try.ntmps29
  go_wp2_with fail
  clear hU hU1 hpa hpb
  go_loopw [8, 9] (fun v iv V => ∃ (i m : Nat) (Aq : Option Addr) (cq : Nat), v = .slice Aq m cq ∧ iv = .int .i64 i ∧ i ≤ k ∧ m ≤ i ∧ Hid ((lessC (cs.take i) (a1, a2) (b1, b2)).length = m ∧ V.ownsRow U.heap.size 66 4 (.slice Aq m cq) m (ccs (lessC (cs.take i) (a1, a2) (b1, b2))) ∧ Below U.heap.size U V)) (fun _ iv _ => k - (intOf iv).toNat)
  case atStart => exact ⟨0, 0, none, 0, rfl, rfl, by omega, by omega, Lib.hid ⟨rfl, World.ownsRow_nil _ _ _ _, Below.refl _ _⟩⟩
  case round =>
    obtain ⟨i, m, Aq, cq, rfl, rfl, hi, hm, hst⟩ := hrel
    obtain ⟨_, m1, _, _, _⟩ := (HX.out.1.below hst.out.2.2).head
    by_cases hlt : i < k
    · obtain ⟨⟨⟨e1, e2⟩, ⟨e3, e4⟩⟩, he⟩ : ∃ e, cs[i]? = some e := ⟨cs[i]'(by have := HX.out.1.2.2.1.1; omega), by simp⟩
      obtain ⟨nb, hnb⟩ : ∃ b, wr.heap.size = b := ⟨_, rfl⟩
      obtain ⟨V1, hV1⟩ : ∃ V, wr.alloc (.cells #[.int .i64 0, .int .i64 0, .int .i64 0, .int .i64 0] 66) = V := ⟨_, rfl⟩
      have bV : Below wr.heap.size wr V1 := by rw [← hV1]; exact (Below.refl _ wr).alloc (Nat.le_refl _) _
      have N1 : Bn nb 66 [.int .i64 0, .int .i64 0, .int .i64 0, .int .i64 0] V1 := by rw [← hV1, ← hnb]; exact heap_alloc_new wr _
      obtain ⟨g, rfl, _, p0, p1, p2, p3⟩ := (HX.out.1.below hst.out.2.2).cut_at he
      simp only at p0 p1 p2 p3
      have x0 := (N1.cell 0).trans rfl
      have x1 := (N1.cell 1).trans rfl
      have x2 := (N1.cell 2).trans rfl
      have x3 := (N1.cell 3).trans rfl
      have f0 := N1.frozen 0
      have f1 := N1.frozen 1
      have f2 := N1.frozen 2
      have f3 := N1.frozen 3
      have NY := (((N1.set 0 (.int .i64 e1)).set 1 (.int .i64 e2)).set 2 (.int .i64 e3)).set 3 (.int .i64 e4)
      have gY := grown_trans_one (grown_trans_one (grown_trans_one (gset V1 nb 0 (.int .i64 e1)) (gset _ nb 1 (.int .i64 e2))) (gset _ nb 2 (.int .i64 e3))) (gset _ nb 3 (.int .i64 e4))
      obtain ⟨Y, hY⟩ : ∃ V, (((V1.setCell ⟨nb, 0, none⟩ (.int .i64 e1)).setCell ⟨nb, 1, none⟩ (.int .i64 e2)).setCell ⟨nb, 2, none⟩ (.int .i64 e3)).setCell ⟨nb, 3, none⟩ (.int .i64 e4) = V := ⟨_, rfl⟩
      rw [hY] at NY gY
      simp only [List.set_cons_zero, List.set_cons_succ] at NY
      have bwY : Below wr.heap.size wr Y := bV.grown gY bV.size fun j hj => by injection hj with hj; omega
      have bY : Below U.heap.size U Y := hst.out.2.2.trans (bwY.mono hst.out.2.2.size)
      have oY := own_below hst.out.2.1 bwY (Nat.le_refl _)
      have z0 := (NY.cell 0).trans rfl
      have z1 := (NY.cell 1).trans rfl
      have z2 := (NY.cell 2).trans rfl
      have z3 := (NY.cell 3).trans rfl
      have MA := HX.out.2.1.same (bY.block pa HX.out.2.1.lt)
      have MB := HX.out.2.2.1.same (bY.block pb HX.out.2.2.1.lt)
      have u0 := (MA.cell 0).trans rfl
      have u1 := (MA.cell 1).trans rfl
      have w0 := (MB.cell 0).trans rfl
      have w1 := (MB.cell 1).trans rfl
      obtain ⟨q1, hq1⟩ : ∃ r, eqA (e1, e2) (a1, a2) = r := ⟨_, rfl⟩
      obtain ⟨q2, hq2⟩ : ∃ r, eqA (e3, e4) (b1, b2) = r := ⟨_, rfl⟩
      obtain ⟨q3, hq3⟩ : ∃ r, eqA (e1, e2) (b1, b2) = r := ⟨_, rfl⟩
      obtain ⟨q4, hq4⟩ : ∃ r, eqA (e3, e4) (a1, a2) = r := ⟨_, rfl⟩
      have R1 := run_eqA e1 e2 a1 a2 q1 hq1
      have R2 := run_eqA e3 e4 b1 b2 q2 hq2
      have R3 := run_eqA e1 e2 b1 b2 q3 hq3
      have R4 := run_eqA e3 e4 a1 a2 q4 hq4
      have hstep : lessC (cs.take (i + 1)) (a1, a2) (b1, b2) = lessC (cs.take i) (a1, a2) (b1, b2) ++ if ((q1 && q2) || (q3 && q4)) then [] else [((e1, e2), (e3, e4))] := by
        rw [less_step he, ← hq1, ← hq2, ← hq3, ← hq4]
        rfl
      have HS := Lib.hid (And.intro hstep (And.intro bY oY))
      have d1 : (0 : Int) ≤ (i : Int) := by omega
      have d2 : (i : Int) < (k : Int) := by omega
      clear hstep bY oY gY NY MA MB N1 bV bwY he hq1 hq2 hq3 hq4
      cases q1 <;> cases q2 <;> cases q3 <;> cases q4
      all_goals
        first
          | (have HF : Hid (lessC (cs.take (i + 1)) (a1, a2) (b1, b2) = lessC (cs.take i) (a1, a2) (b1, b2)) := Lib.hid (HS.out.1.trans (List.append_nil _))
             go_wp2_with fail
             exact ⟨⟨i + 1, m, Aq, cq, rfl, rfl, by omega, by omega, Lib.hid ⟨by rw [HF.out]; exact hst.out.1, by rw [HF.out]; exact HS.out.2.2, HS.out.2.1⟩⟩, by simp only [intOf]; omega⟩)
          | (have HF : Hid (lessC (cs.take (i + 1)) (a1, a2) (b1, b2) = lessC (cs.take i) (a1, a2) (b1, b2) ++ [((e1, e2), (e3, e4))]) := Lib.hid HS.out.1
             go_wp2_with (at_builtin; refine wpList_append_ct rfl _ _ 28 rfl U.heap.size 66 i0 _ 32 Try.underlying28 hi0 hz0 hz1 hz2 rfl (.slice Aq m cq) m (lessC (cs.take i) (a1, a2) (b1, b2)) rfl HS.out.2.2 ((e1, e2), (e3, e4)) 1 rfl (by omega) (by omega) HS.out.2.1.size ?_; intro v7 w7 o7 g7 at7; obtain ⟨A7, c7, rfl⟩ := own_form o7; have HZ := Lib.hid (And.intro o7 (And.intro g7 at7)); clear o7 g7 at7)
             exact ⟨⟨i + 1, m + 1, A7, c7, rfl, rfl, by omega, by omega, Lib.hid ⟨by rw [HF.out, List.length_append, hst.out.1]; rfl, by rw [HF.out]; exact HZ.out.1, HS.out.2.1.grown HZ.out.2.1 HS.out.2.1.size fun g hg => (HS.out.2.2.lt g hg).1⟩⟩, by simp only [intOf]; omega⟩)
    · obtain rfl : i = k := by omega
      have hT : cs.take i = cs := List.take_of_length_le (by have := HX.out.1.2.2.1.1; omega)
      rw [hT] at hst
      have MA := HX.out.2.1.same (hst.out.2.2.block pa HX.out.2.1.lt)
      have MB := HX.out.2.2.1.same (hst.out.2.2.block pb HX.out.2.2.1.lt)
      have u0 := (MA.cell 0).trans rfl
      have u1 := (MA.cell 1).trans rfl
      have w0 := (MB.cell 0).trans rfl
      have w1 := (MB.cell 1).trans rfl
      obtain ⟨nAB, hAB⟩ : ∃ e, eqA (a1, a2) (b1, b2) = !e := ⟨!(eqA (a1, a2) (b1, b2)), by simp⟩
      have rAB := run_neA a1 a2 b1 b2 nAB hAB
      have hfin : ∀ (V : World) (A7 : Option Addr) (c7 m7 : Nat), Below U.heap.size U V → (partL cs (a1, a2) (b1, b2) cut).length = m7 → V.ownsRow U.heap.size 66 4 (.slice A7 m7 c7) m7 (ccs (partL cs (a1, a2) (b1, b2) cut)) →
          (V.frozen? ⟨mb, 1, none⟩ = false ∧ V.cell? ⟨mb, 1, none⟩ = some (.slice B i q)) ∧ Hid (RN (fun j => F j ∨ (U.heap.size ≤ j ∧ j < V.heap.size)) (V.setCell ⟨mb, 1, none⟩ (.slice A7 m7 c7)) mb A c n l A7 c7 m7 (partL cs (a1, a2) (b1, b2) cut) s t u ∧ Stp F w (fun j => F j ∨ (U.heap.size ≤ j ∧ j < V.heap.size)) (V.setCell ⟨mb, 1, none⟩ (.slice A7 m7 c7)) ∧ m7 ≤ i + 1) := fun V A7 c7 m7 hV hm7 ho => by
        refine ⟨⟨(HX.out.1.below hV).frozen 1, (HX.out.1.below hV).head.2.1⟩, Lib.hid ⟨HX.out.1.recut hV.size (fun x hx => hV.block x (HX.out.1.lt x hx)) (fun _ => .inl) (fun x hx => hx.elim (fun hx => Nat.lt_of_lt_of_le (HX.out.1.lt x hx) hV.size) fun hx => hx.2) hm7 (own_base0 ho) (fun g hg => .inr (ho.lt g hg)) fun e he => ?_, ⟨?_, fun j hj => hj.imp id fun q => Nat.le_trans HX.out.2.2.2.1.size q.1⟩, ?_⟩⟩
        · rcases part_mem.1 he with ⟨h1, _⟩ | ⟨_, _, rfl⟩
          · exact HX.out.1.2.2.1.2.2 e h1
          · exact ⟨HX.out.2.2.2.2.1, HX.out.2.2.2.2.2.1⟩
        · exact (Chg.of_below (HX.out.2.2.2.1.trans (hV.mono HX.out.2.2.2.1.size))).trans (Chg.of_grown (gset V mb 1 _) fun g hg => by injection hg with hg; subst hg; exact HX.out.1.mbF) fun _ => .inl
        · have := part_len cs (a1, a2) (b1, b2) cut
          have := HX.out.1.2.2.1.1
          omega
      have HF := Lib.hid hfin
      have HA := Lib.hid hAB
      clear MA MB hfin hT hAB
      have hno : (cut && !(eqA (a1, a2) (b1, b2))) = false → partL cs (a1, a2) (b1, b2) cut = lessC cs (a1, a2) (b1, b2) := fun h => by unfold partL; rw [h]; exact List.append_nil _
      have hyes : (cut && !(eqA (a1, a2) (b1, b2))) = true → partL cs (a1, a2) (b1, b2) cut = lessC cs (a1, a2) (b1, b2) ++ [((a1, a2), (b1, b2))] := fun h => by unfold partL; rw [h]; rfl
      have HY := Lib.hid (And.intro hno hyes)
      clear hno hyes
      cases cut <;> cases nAB
      all_goals
        first
          | (have hE := HY.out.1 (by rw [HA.out]; rfl)
             have hR := HF.out wr Aq cq m hst.out.2.2 (by rw [hE]; exact hst.out.1) (by rw [hE]; exact hst.out.2.1)
             obtain ⟨f1, f2⟩ := hR.1
             have HR := Lib.hid hR.2.out
             clear hE hR
             go_wp2_with fail
             refine bodyPost_end (v := .tuple #[]) (results_none rfl _ _ _) rfl ?_
             exact ⟨rfl, _, _, _, _, Lib.hid ⟨HR.out.2.2, HR.out.1, HR.out.2.1⟩⟩)
          | (have HE := Lib.hid (HY.out.2 (by rw [HA.out]; rfl))
             go_wp2_with (at_builtin; refine wpList_append_ct rfl _ _ 28 rfl U.heap.size 66 i0 _ 32 Try.underlying28 hi0 hz0 hz1 hz2 rfl (.slice Aq m cq) m (lessC cs (a1, a2) (b1, b2)) rfl hst.out.2.1 ((a1, a2), (b1, b2)) 1 rfl (by omega) (by omega) hst.out.2.2.size ?_; intro v7 w7 o7 g7 at7; obtain ⟨A7, c7, rfl⟩ := own_form o7; have hR := HF.out w7 A7 c7 (m + 1) (hst.out.2.2.grown g7 hst.out.2.2.size fun g hg => (hst.out.2.1.lt g hg).1) (by rw [HE.out, List.length_append, hst.out.1]; rfl) (by rw [HE.out]; exact o7); obtain ⟨f1, f2⟩ := hR.1; have HR := Lib.hid hR.2.out; clear hR o7 g7 at7)
             refine bodyPost_end (v := .tuple #[]) (results_none rfl _ _ _) rfl ?_
             exact ⟨rfl, _, _, _, _, Lib.hid ⟨HR.out.2.2, HR.out.1, HR.out.2.1⟩⟩)
end
end Net
end Go.Proofs.Ytinbaiblbbfnnaa
