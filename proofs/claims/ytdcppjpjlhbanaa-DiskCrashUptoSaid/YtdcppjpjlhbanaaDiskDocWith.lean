/-
  The document's without and with (layer 7).
-/
import Derived.Test.YtdcppjpjlhbanaaDiskDoc
namespace Go.Proofs.Ytdcppjpjlhbanaa
namespace Disk
open Go.RowKit Blk
attribute [local go_sem ↓] Go.wp_at_zero Go.wp_at_succ
theorem wout_app {β : Type} (l m : List (Nm × β)) (s : Nm) : wout (l ++ m) s = wout l s ++ wout m s := by unfold wout; exact List.filter_append ..
theorem wout_one {β : Type} (x : Nm × β) (s : Nm) : wout [x] s = if x.1 = s then [] else [x] := by
  unfold wout
  by_cases h : x.1 = s <;> simp [h]
theorem ins_all {β : Type} {l : List (Nm × β)} {s : Nm} (b : β) (h : (l.any fun y => nlt s y.1) = false) : ins l s b = l ++ [(s, b)] := by
  induction l with
  | nil => rfl
  | cons y l ih =>
    rw [List.any_cons, Bool.or_eq_false_iff] at h
    unfold ins
    rw [h.1, if_neg (by simp), ih h.2]
    rfl
theorem ins_app {β : Type} {l : List (Nm × β)} {s : Nm} (b : β) (m : List (Nm × β)) (h : (l.any fun y => nlt s y.1) = true) : ins (l ++ m) s b = ins l s b ++ m := by
  induction l with
  | nil => simp at h
  | cons y l ih =>
    rw [List.cons_append]
    unfold ins
    by_cases e : nlt s y.1 = true
    · rw [if_pos e, if_pos e]; rfl
    · rw [if_neg e, if_neg e, ih (by rw [List.any_cons] at h; simpa [e] using h)]; rfl
theorem ins_at {β : Type} {l : List (Nm × β)} {s : Nm} (b : β) (x : Nm × β) (h : (l.any fun y => nlt s y.1) = false) (hx : nlt s x.1 = true) : ins (l ++ [x]) s b = l ++ [(s, b)] ++ [x] := by
  induction l with
  | nil => show (if nlt s x.1 = true then _ else _) = _; rw [if_pos hx]; rfl
  | cons y l ih =>
    rw [List.any_cons, Bool.or_eq_false_iff] at h
    rw [List.cons_append]
    unfold ins
    rw [h.1, if_neg (by simp), ih h.2]
    rfl
/-- What with has laid when i files have been looked at. -/
def wupto (l : Rl) (s : Nm) (b : Df) (i : Nat) : Rl := if ((l.take i).any fun y => nlt s y.1) = true then ins (l.take i) s b else l.take i
section
variable {F : Nat → Prop} {w : World} {A : Option Addr} {n c : Nat} {l : Rl}
theorem Fr.of {V : World} {A' : Option Addr} {m c' : Nat} {l' : Rl} (h : Fr F w A n c l) (hF : ∀ j, w.heap.size ≤ j → F j) (hb : Below w.heap.size w V) (ho : V.ownsRow w.heap.size 67 2 (.slice A' m c') m (fcs l')) (hl : l'.length = m) (hm : ∀ x ∈ l', x ∈ l ∨ (FlOK F w x.2 ∧ x.1.size ≤ 16)) : Fr F V A' m c' l' := by
  refine ⟨hl, own_base ho (Nat.zero_le _), fun g hg => hF g (ho.lt g hg).1, fun x hx => ?_, fun x hx => ?_⟩
  · have h1 : FlOK F w x.2 := (hm x hx).elim (fun q => h.2.2.2.1 x q) fun q => q.1
    exact h1.keep (fun j _ hj => hb.block j hj) fun _ => id
  · exact (hm x hx).elim (fun q => h.2.2.2.2 x q) fun q => q.2
set_option maxRecDepth 100000 in
set_option maxHeartbeats 2000000 in
theorem doc_without (h : Fr F w A n c l) (hF : ∀ j, w.heap.size ≤ j → F j) (hn : n ≤ 3000000000000) (s : Nm) : Calls Try.prog 49 #[.slice A n c, .string s] w (fun e w' => ∃ A' n' c', e = .returned (.slice A' n' c') ∧ Hid (Fr F w' A' n' c' (wout l s) ∧ Below w.heap.size w w')) := by
  obtain ⟨i0, hi0, hz0, hz1, hz2⟩ := info_parts info_file
  have HH := Lib.hid h
  have HF := Lib.hid hF
  clear h hF
  go_enter Try.func49, Try.ntmps49
  go_wp2_with fail
  go_loopw [5, 6] (fun v iv V => ∃ (i m : Nat) (Aq : Option Addr) (cq : Nat), v = .slice Aq m cq ∧ iv = .int .i64 i ∧ i ≤ n ∧ m ≤ i ∧ Hid ((wout (l.take i) s).length = m ∧ V.ownsRow w.heap.size 67 2 (.slice Aq m cq) m (fcs (wout (l.take i) s)) ∧ Below w.heap.size w V)) (fun _ iv _ => n - (intOf iv).toNat)
  case atStart => exact ⟨0, 0, none, 0, rfl, rfl, by omega, by omega, Lib.hid ⟨rfl, World.ownsRow_nil _ _ _ _, Below.refl _ _⟩⟩
  case round =>
    obtain ⟨i, m, Aq, cq, rfl, rfl, hi, hm, hst⟩ := hrel
    by_cases hlt : i < n
    · have hil : i < l.length := by have := HH.out.1; omega
      obtain ⟨⟨t, x⟩, hx⟩ : ∃ x, l[i]? = some x := ⟨_, List.getElem?_eq_getElem hil⟩
      have hxx := (List.getElem?_eq_some_iff.1 hx).2
      obtain ⟨g, rfl, p0, p1⟩ := (HH.out.below hst.out.2.2 (Nat.le_refl _)).at hx
      have d1 : (0 : Int) ≤ (i : Int) := by omega
      have d2 : (i : Int) < (n : Int) := by omega
      have hb := nm_eq t s
      have ht : wout (l.take (i + 1)) s = wout (l.take i) s ++ (if t = s then [] else [(t, x)]) := by rw [List.take_succ_eq_append_getElem hil, wout_app, hxx, wout_one]
      by_cases hs : t = s
      · rw [if_pos hs, List.append_nil] at ht
        have HT := Lib.hid ht
        have hne : (t.toList == s.toList) = true := by rw [hb, decide_eq_true hs]
        clear hx hxx hb ht
        subst hs
        go_wp2_with fail
        exact ⟨⟨i + 1, m, Aq, cq, rfl, rfl, by omega, by omega, Lib.hid (by rw [HT.out]; exact hst.out)⟩, by simp only [intOf]; omega⟩
      · rw [if_neg hs] at ht
        have HT := Lib.hid ht
        have hne : (t.toList == s.toList) = false := by rw [hb, decide_eq_false hs]
        have HI := Lib.hid hs
        clear hx hxx hb ht hs
        obtain ⟨dv, hdv⟩ : ∃ v, x.v = v := ⟨_, rfl⟩
        rw [hdv] at p1
        go_wp2_with (at_builtin; rw [← hdv]; refine wpList_append_fl rfl _ _ 33 rfl w.heap.size 67 i0 _ 40 Try.underlying33 hi0 hz0 hz1 hz2 rfl (.slice Aq m cq) m (wout (l.take i) s) rfl hst.out.2.1 (t, x) 1 rfl (by omega) (by omega) hst.out.2.2.size ?_; intro v7 w7 o7 g7 at7; obtain ⟨A7, c7, rfl⟩ := own_form o7; have HZ := Lib.hid (And.intro o7 (And.intro g7 at7)); clear o7 g7 at7)
        refine ⟨⟨i + 1, m + 1, A7, c7, rfl, rfl, by omega, by omega, Lib.hid ⟨?_, ?_, ?_⟩⟩, by simp only [intOf]; omega⟩
        · rw [HT.out, List.length_append, hst.out.1]
          rfl
        · rw [HT.out]
          exact HZ.out.1
        · exact hst.out.2.2.grown HZ.out.2.1 hst.out.2.2.size fun g hg => (hst.out.2.1.lt g hg).1
    · obtain rfl : i = n := by omega
      have HE : Hid (Fr F wr Aq m cq (wout l s) ∧ Below w.heap.size w wr) := Lib.hid (by
        have ht : l.take i = l := List.take_of_length_le (by have := HH.out.1; omega)
        have h1 := hst.out
        rw [ht] at h1
        exact ⟨HH.out.of HF.out h1.2.2 h1.2.1 h1.1 fun x hx => .inl (mem_wout.1 hx).1, h1.2.2⟩)
      clear hst
      go_wp2_with fail
      go_ret
      exact ⟨Aq, m, cq, rfl, HE⟩
end
section
variable {l : Rl} {s : Nm} {i : Nat} {x : Nm × Df} (b : Df)
theorem any_take (hx : l[i]? = some x) : ((l.take (i + 1)).any fun y => nlt s y.1) = (((l.take i).any fun y => nlt s y.1) || nlt s x.1) := by
  obtain ⟨hi, rfl⟩ := List.getElem?_eq_some_iff.1 hx
  rw [List.take_succ_eq_append_getElem hi, List.any_append]
  simp
theorem wupto_yes (hx : l[i]? = some x) (h : ((l.take i).any fun y => nlt s y.1) = true) : wupto l s b (i + 1) = wupto l s b i ++ [x] ∧ ((l.take (i + 1)).any fun y => nlt s y.1) = true := by
  have h1 := any_take (s := s) hx
  rw [h, Bool.true_or] at h1
  refine ⟨?_, h1⟩
  unfold wupto
  rw [if_pos h, if_pos h1]
  obtain ⟨hi, rfl⟩ := List.getElem?_eq_some_iff.1 hx
  rw [List.take_succ_eq_append_getElem hi, ins_app b _ h]
theorem wupto_at (hx : l[i]? = some x) (h : ((l.take i).any fun y => nlt s y.1) = false) (hn : nlt s x.1 = true) : wupto l s b (i + 1) = wupto l s b i ++ [(s, b)] ++ [x] ∧ ((l.take (i + 1)).any fun y => nlt s y.1) = true := by
  have h1 := any_take (s := s) hx
  rw [h, hn, Bool.false_or] at h1
  refine ⟨?_, h1⟩
  unfold wupto
  rw [if_pos h1, if_neg (by rw [h]; simp)]
  obtain ⟨hi, rfl⟩ := List.getElem?_eq_some_iff.1 hx
  rw [List.take_succ_eq_append_getElem hi, ins_at b _ h hn]
theorem wupto_no (hx : l[i]? = some x) (h : ((l.take i).any fun y => nlt s y.1) = false) (hn : nlt s x.1 = false) : wupto l s b (i + 1) = wupto l s b i ++ [x] ∧ ((l.take (i + 1)).any fun y => nlt s y.1) = false := by
  have h1 := any_take (s := s) hx
  rw [h, hn, Bool.false_or] at h1
  refine ⟨?_, h1⟩
  unfold wupto
  rw [if_neg (by rw [h1]; simp), if_neg (by rw [h]; simp)]
  obtain ⟨hi, rfl⟩ := List.getElem?_eq_some_iff.1 hx
  rw [List.take_succ_eq_append_getElem hi]
theorem wupto_end (h : (l.any fun y => nlt s y.1) = true) : wupto l s b l.length = ins l s b := by
  unfold wupto
  rw [List.take_length, if_pos h]
theorem wupto_last (h : (l.any fun y => nlt s y.1) = false) : wupto l s b l.length ++ [(s, b)] = ins l s b := by
  unfold wupto
  rw [List.take_length, if_neg (by rw [h]; simp), ins_all b h]
end
section
variable {F : Nat → Prop} {w : World} {A : Option Addr} {n c : Nat} {l : Rl}
set_option maxRecDepth 100000 in
set_option maxHeartbeats 4000000 in
theorem doc_with (h : Fr F w A n c l) (hF : ∀ j, w.heap.size ≤ j → F j) (hn : n ≤ 3000000000000) (s : Nm) (hs : s.size ≤ 16) (b : Df) (hb : FlOK F w b) (k : Nat) (hk : b.d.length = k) :
    Calls Try.prog 48 #[.slice A n c, .string s, .slice b.A k b.c] w (fun e w' => ∃ A' n' c', e = .returned (.slice A' n' c') ∧ Hid (Fr F w' A' n' c' (wit l s b) ∧ Below w.heap.size w w')) := by
  obtain ⟨i0, hi0, hz0, hz1, hz2⟩ := info_parts info_file
  have H1 := Lib.hid (doc_without h hF hn s)
  have HH := Lib.hid (And.intro h (And.intro hF (And.intro hs hb)))
  have hbv : b.v = .slice b.A k b.c := by rw [← hk]; rfl
  have HB := Lib.hid hbv
  clear h hF hs hb hk hbv
  go_enter Try.func48, Try.ntmps48
  go_wp2_with fail
  refine H1.out.mono ?_
  rintro e V0 ⟨A1, n1, c1, rfl, hV⟩
  obtain ⟨l1, hl1⟩ : ∃ x, wout l s = x := ⟨_, rfl⟩
  have hn1 : n1 ≤ n := by
    rw [← hV.out.1.1, ← HH.out.1.1]
    exact List.length_filter_le _ _
  have HW : Hid (wit l s b = ins l1 s b) := Lib.hid (by rw [wit, hl1])
  rw [hl1] at hV
  obtain ⟨V, hVe⟩ : ∃ W, W = V0 := ⟨_, rfl⟩
  subst hVe
  have HL := Lib.hid hV.out.1.1
  go_wp2_with fail
  go_loopw [7, 8, 9] (fun v lv iv U => ∃ (i m : Nat) (Aq : Option Addr) (cq : Nat) (ld : Bool), v = .slice Aq m cq ∧ lv = .bool ld ∧ iv = .int .i64 i ∧ i ≤ n1 ∧ m ≤ i + 1 ∧ Hid (((l1.take i).any fun y => nlt s y.1) = ld ∧ (wupto l1 s b i).length = m ∧ U.ownsRow V.heap.size 67 2 (.slice Aq m cq) m (fcs (wupto l1 s b i)) ∧ Below V.heap.size V U)) (fun _ _ iv _ => n1 - (intOf iv).toNat)
  case atStart => exact ⟨0, 0, none, 0, false, rfl, rfl, rfl, by omega, by omega, Lib.hid ⟨rfl, rfl, World.ownsRow_nil _ _ _ _, Below.refl _ _⟩⟩
  case round =>
    obtain ⟨i, m, Aq, cq, ld, rfl, rfl, rfl, hi, hm, hst⟩ := hrel
    by_cases hlt : i < n1
    · have hil : i < l1.length := by have := HL.out; omega
      obtain ⟨⟨t, x⟩, hx⟩ : ∃ x, l1[i]? = some x := ⟨_, List.getElem?_eq_getElem hil⟩
      have hp := fun (W : World) (hW : Below V.heap.size V W) => (hV.out.1.below hW (Nat.le_refl _)).at hx
      obtain ⟨g, rfl, p0, p1⟩ := hp wr hst.out.2.2.2
      have d1 : (0 : Int) ≤ (i : Int) := by omega
      have d2 : (i : Int) < (n1 : Int) := by omega
      obtain ⟨dv, hdv⟩ : ∃ v, x.v = v := ⟨_, rfl⟩
      rw [hdv] at p1
      have HD := Lib.hid hdv
      cases ld with
      | true =>
        have HT := Lib.hid (wupto_yes b hx hst.out.1)
        clear hx hp hdv
        go_wp2_with (at_builtin; rw [← HD.out]; refine wpList_append_fl rfl _ _ 33 rfl V.heap.size 67 i0 _ 40 Try.underlying33 hi0 hz0 hz1 hz2 rfl (.slice Aq m cq) m (wupto l1 s b i) rfl hst.out.2.2.1 (t, x) 1 rfl (by omega) (by omega) hst.out.2.2.2.size ?_; intro v7 w7 o7 g7 at7; obtain ⟨A7, c7, rfl⟩ := own_form o7; have HZ := Lib.hid (And.intro o7 (And.intro g7 at7)); clear o7 g7 at7)
        refine ⟨⟨i + 1, m + 1, A7, c7, true, rfl, rfl, rfl, by omega, by omega, Lib.hid ⟨HT.out.2, ?_, ?_, ?_⟩⟩, by simp only [intOf]; omega⟩
        · rw [HT.out.1, List.length_append, hst.out.2.1]
          rfl
        · rw [HT.out.1]
          exact HZ.out.1
        · exact hst.out.2.2.2.grown HZ.out.2.1 hst.out.2.2.2.size fun g hg => (hst.out.2.2.1.lt g hg).1
      | false =>
        obtain ⟨lt, hlt2⟩ : ∃ z, nlt s t = z := ⟨_, rfl⟩
        have hlt3 : Op.bytesLess s.toList t.toList = lt := hlt2
        cases lt with
        | false =>
          have HT := Lib.hid (wupto_no b hx hst.out.1 hlt2)
          clear hx hp hdv hlt2
          go_wp2_with (at_builtin; rw [← HD.out]; refine wpList_append_fl rfl _ _ 33 rfl V.heap.size 67 i0 _ 40 Try.underlying33 hi0 hz0 hz1 hz2 rfl (.slice Aq m cq) m (wupto l1 s b i) rfl hst.out.2.2.1 (t, x) 1 rfl (by omega) (by omega) hst.out.2.2.2.size ?_; intro v7 w7 o7 g7 at7; obtain ⟨A7, c7, rfl⟩ := own_form o7; have HZ := Lib.hid (And.intro o7 (And.intro g7 at7)); clear o7 g7 at7)
          refine ⟨⟨i + 1, m + 1, A7, c7, false, rfl, rfl, rfl, by omega, by omega, Lib.hid ⟨HT.out.2, ?_, ?_, ?_⟩⟩, by simp only [intOf]; omega⟩
          · rw [HT.out.1, List.length_append, hst.out.2.1]
            rfl
          · rw [HT.out.1]
            exact HZ.out.1
          · exact hst.out.2.2.2.grown HZ.out.2.1 hst.out.2.2.2.size fun g hg => (hst.out.2.2.1.lt g hg).1
        | true =>
          have HT := Lib.hid (wupto_at b hx hst.out.1 hlt2)
          have hml : m ≤ i := by
            have h1 := hst.out.2.1
            unfold wupto at h1
            rw [if_neg (by rw [hst.out.1]; simp), List.length_take] at h1
            omega
          have HP := Lib.hid hp
          clear hx hp hdv hlt2
          go_wp2_with (first
            | (at_builtin; rw [← HB.out]; refine wpList_append_fl rfl _ _ 33 rfl V.heap.size 67 i0 _ 40 Try.underlying33 hi0 hz0 hz1 hz2 rfl (.slice Aq m cq) m (wupto l1 s b i) rfl hst.out.2.2.1 (s, b) 1 rfl (by omega) (by omega) hst.out.2.2.2.size ?_; intro v7 w7 o7 g7 at7; obtain ⟨A7, c7, rfl⟩ := own_form o7; have HZ := Lib.hid (And.intro o7 (And.intro g7 at7)); clear o7 g7 at7; have hb7 : Hid (Below V.heap.size V w7) := Lib.hid (hst.out.2.2.2.grown HZ.out.2.1 hst.out.2.2.2.size fun g hg => (hst.out.2.2.1.lt g hg).1); obtain ⟨g8, hg8, q0, q1⟩ := HP.out w7 hb7.out; injection hg8 with hg8; injection hg8 with hg8; subst hg8; rw [HD.out] at q1; rw [HB.out])
            | (at_builtin; rw [← HD.out]; refine wpList_append_fl rfl _ _ 33 rfl V.heap.size 67 i0 _ 40 Try.underlying33 hi0 hz0 hz1 hz2 rfl (.slice A7 (m + 1) c7) (m + 1) (wupto l1 s b i ++ [(s, b)]) rfl HZ.out.1 (t, x) 1 rfl (by omega) (by omega) hb7.out.size ?_; intro v9 w9 o9 g9 at9; obtain ⟨A9, c9, rfl⟩ := own_form o9; have HY := Lib.hid (And.intro o9 (And.intro g9 at9)); clear o9 g9 at9))
          refine ⟨⟨i + 1, m + 1 + 1, A9, c9, true, rfl, rfl, rfl, by omega, by omega, Lib.hid ⟨HT.out.2, ?_, ?_, ?_⟩⟩, by simp only [intOf]; omega⟩
          · rw [HT.out.1, List.length_append, List.length_append, hst.out.2.1]
            rfl
          · rw [HT.out.1]
            exact HY.out.1
          · exact hb7.out.grown HY.out.2.1 hb7.out.size fun g hg => (HZ.out.1.lt g hg).1
    · obtain rfl : i = n1 := by omega
      have ht : l1.take i = l1 := List.take_of_length_le (by have := HL.out; omega)
      have hil : i = l1.length := HL.out.symm
      have fin : ∀ (W : World) (Az : Option Addr) (mz cz : Nat), (ins l1 s b).length = mz → W.ownsRow V.heap.size 67 2 (.slice Az mz cz) mz (fcs (ins l1 s b)) → Below V.heap.size V W → Fr F W Az mz cz (wit l s b) ∧ Below w.heap.size w W := fun W Az mz cz q1 q2 q3 => by
        rw [HW.out]
        refine ⟨hV.out.1.of (fun j hj => HH.out.2.1 j (by have := hV.out.2.size; omega)) q3 q2 q1 fun y hy => ?_, hV.out.2.trans (q3.mono hV.out.2.size)⟩
        rcases mem_ins.1 hy with rfl | hy
        · exact .inr ⟨HH.out.2.2.2.keep (fun j _ hj => hV.out.2.block j hj) fun _ => id, HH.out.2.2.1⟩
        · exact .inl hy
      have HFin := Lib.hid fin
      clear fin
      cases ld with
      | true =>
        have HE : Hid (Fr F wr Aq m cq (wit l s b) ∧ Below w.heap.size w wr) := Lib.hid (by
          have h0 := hst.out.1
          rw [ht] at h0
          have h1 := wupto_end b h0
          rw [← hil] at h1
          have h2 := hst.out.2
          rw [h1] at h2
          exact HFin.out _ _ _ _ h2.1 h2.2.1 h2.2.2)
        clear hst ht hil
        go_wp2_with fail
        go_ret
        exact ⟨Aq, m, cq, rfl, HE⟩
      | false =>
        have HT : Hid (wupto l1 s b i ++ [(s, b)] = ins l1 s b) := Lib.hid (by
          have h0 := hst.out.1
          rw [ht] at h0
          have h1 := wupto_last b h0
          rwa [← hil] at h1)
        clear ht hil
        go_wp2_with (at_builtin; rw [← HB.out]; refine wpList_append_fl rfl _ _ 33 rfl V.heap.size 67 i0 _ 40 Try.underlying33 hi0 hz0 hz1 hz2 rfl (.slice Aq m cq) m (wupto l1 s b i) rfl hst.out.2.2.1 (s, b) 1 rfl (by omega) (by omega) hst.out.2.2.2.size ?_; intro v7 w7 o7 g7 at7; obtain ⟨A7, c7, rfl⟩ := own_form o7; have HZ := Lib.hid (And.intro o7 (And.intro g7 at7)); clear o7 g7 at7)
        have HE : Hid (Fr F w7 A7 (m + 1) c7 (wit l s b) ∧ Below w.heap.size w w7) := Lib.hid (HFin.out _ _ _ _ (by rw [← HT.out, List.length_append, hst.out.2.1]; rfl) (by have := HZ.out.1; rwa [HT.out] at this) (hst.out.2.2.2.grown HZ.out.2.1 hst.out.2.2.2.size fun g hg => (hst.out.2.2.1.lt g hg).1))
        go_ret
        exact ⟨A7, m + 1, c7, rfl, HE⟩
end
end Disk
end Go.Proofs.Ytdcppjpjlhbanaa
