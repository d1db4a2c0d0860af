/-
  The document's disk in memory; Files, Used (layer 7).
-/
import Derived.Test.YtdcppjpjlhbanaaDiskDocDid
import Derived.Test.YtdcppjpjlhbanaaStp
namespace Go.Proofs.Ytdcppjpjlhbanaa
namespace Disk
open Go.RowKit Blk
attribute [local go_sem ↓] Go.wp_at_zero Go.wp_at_succ
abbrev Tl := List (Cp × Df)
def tcs (l : Tl) : List Value := l.flatMap fun x => cgc x.1 x.2
theorem tcs_append (l m : Tl) : tcs (l ++ m) = tcs l ++ tcs m := by simp [tcs]
theorem tcs_one (x : Cp × Df) : tcs [x] = cgc x.1 x.2 := by simp [tcs]
theorem tcs_at (l : Tl) : ∀ (j : Nat) (x : Cp × Df), l[j]? = some x → ∀ r, r < 5 → (tcs l)[j * 5 + r]? = (cgc x.1 x.2)[r]? := by
  induction l with
  | nil => intro j x h; simp at h
  | cons y l ih =>
    intro j x h r hr
    have he : tcs (y :: l) = cgc y.1 y.2 ++ tcs l := by simp [tcs]
    rw [he]
    rcases j with _ | j
    · simp only [List.getElem?_cons_zero, Option.some.injEq] at h
      subst h
      rw [List.getElem?_append_left (by simp [cgc]; omega), Nat.zero_mul, Nat.zero_add]
    · rw [List.getElem?_append_right (by simp [cgc]; omega)]
      have : (j + 1) * 5 + r - (cgc y.1 y.2).length = j * 5 + r := by simp [cgc]; omega
      rw [this]
      exact ih j x (by simpa using h) r hr
theorem info_change : (Try.prog.info? 70).map (fun i => (i.zero, i.size, i.bytes)) = some (some (.agg #[.int .i64 0, .string ⟨#[]⟩, .string ⟨#[]⟩, .slice none 0 0, .int .i64 0]), 5, 72) := by kernel_rfl
/-- The changes since, in memory. -/
def Tr (F : Nat → Prop) (w : World) (A : Option Addr) (n c : Nat) (l : Tl) : Prop :=
  l.length = n ∧ w.ownsRow 0 70 5 (.slice A n c) n (tcs l) ∧ (∀ g, (Value.slice A n c).ownBlock = some g → F g) ∧ ∀ x ∈ l, FlOK F w x.2 ∧ x.2.d = x.1.d ∧ x.2.d.length ≤ 1073741824
/-- The document's disk. -/
def RD (F : Nat → Prop) (w : World) (mb : Nat) (P : Pd) : Prop :=
  ∃ As ns cs ls At nt ct ts, Bn mb 36 [.int .i64 P.room, .slice As ns cs, .slice At nt ct] w ∧ (Fr F w As ns cs ls ∧ fsR ls = P.safe) ∧ (Tr F w At nt ct ts ∧ ts.map Prod.fst = P.q.reverse) ∧ F mb ∧ ∀ j, F j → j < w.heap.size
section
variable {F F' : Nat → Prop} {w w' : World} {mb : Nat} {P : Pd} {A : Option Addr} {n c : Nat} {l : Tl}
theorem Tr.keep (h : Tr F w A n c l) (hk : ∀ j, F j → j < w.heap.size → w'.heap[j]? = w.heap[j]?) (hF : ∀ j, F j → F' j) : Tr F' w' A n c l :=
  ⟨h.1, own_keep h.2.1 fun g hg => hk g (h.2.2.1 g hg) (h.2.1.lt g hg).2, fun g hg => hF g (h.2.2.1 g hg), fun x hx => ⟨(h.2.2.2 x hx).1.keep hk hF, (h.2.2.2 x hx).2⟩⟩
theorem Tr.small (h : Tr F w A n c l) : n ≤ 9223372036854775807 := by
  rcases h.2.1.2 with ⟨hv, h2⟩ | ⟨g, cap, cur, hv, _, hc, hnc, hcm, _⟩
  · omega
  · unfold maxLen at hcm
    omega
theorem Tr.at (h : Tr F w A n c l) {j : Nat} {x : Cp × Df} (hx : l[j]? = some x) : ∃ g, A = some ⟨g, 0, none⟩ ∧ w.cell? ⟨g, j * 5, none⟩ = some (.int .i64 x.1.k) ∧ w.cell? ⟨g, j * 5 + 1, none⟩ = some (.string x.1.s) ∧ w.cell? ⟨g, j * 5 + 2, none⟩ = some (.string x.1.t) ∧ w.cell? ⟨g, j * 5 + 3, none⟩ = some (.slice x.2.A x.2.d.length x.2.c) ∧ w.cell? ⟨g, j * 5 + 4, none⟩ = some (.int .i64 x.1.n) := by
  have hj := (List.getElem?_eq_some_iff.1 hx).1
  have hn := h.1
  rcases h.2.1.2 with ⟨hv, h2⟩ | ⟨g, cap, cur, hv, _, hc, hnc, hcs⟩
  · omega
  · injection hv with hA
    subst hA
    have hat : ∀ r, r < 5 → w.cell? ⟨g, j * 5 + r, none⟩ = (cgc x.1 x.2)[r]? := fun r hr => by
      rw [h.2.1.cellAt (j * 5 + r) (by omega), tcs_at l j x hx r hr]
    exact ⟨g, rfl, hat 0 (by omega), hat 1 (by omega), hat 2 (by omega), hat 3 (by omega), hat 4 (by omega)⟩
theorem RD.lt (h : RD F w mb P) : ∀ j, F j → j < w.heap.size := by
  obtain ⟨As, ns, cs, ls, At, nt, ct, ts, h1, h2, h3, h4, h5⟩ := h
  exact h5
theorem RD.mbF (h : RD F w mb P) : F mb := by
  obtain ⟨As, ns, cs, ls, At, nt, ct, ts, h1, h2, h3, h4, h5⟩ := h
  exact h4
theorem RD.keep (h : RD F w mb P) (hs : w.heap.size ≤ w'.heap.size) (hk : ∀ j, F j → w'.heap[j]? = w.heap[j]?) : RD F w' mb P := by
  obtain ⟨As, ns, cs, ls, At, nt, ct, ts, h1, h2, h3, h4, h5⟩ := h
  exact ⟨As, ns, cs, ls, At, nt, ct, ts, h1.same (hk mb h4), ⟨h2.1.keep (fun j hj _ => hk j hj) fun _ => id, h2.2⟩, ⟨h3.1.keep (fun j hj _ => hk j hj) fun _ => id, h3.2⟩, h4, fun j hj => Nat.lt_of_lt_of_le (h5 j hj) hs⟩
theorem RD.below (h : RD F w mb P) (hb : Below w.heap.size w w') : RD F w' mb P := h.keep hb.size fun j hj => hb.block j (h.lt j hj)
theorem RD.chg {G : Nat → Prop} (h : RD F w mb P) (hb : Chg G w w') (hG : ∀ j, F j → ¬ G j) : RD F w' mb P := h.keep hb.size fun j hj => hb.block j (h.lt j hj) (hG j hj)
/-- What is among F, or new. -/
abbrev more (F : Nat → Prop) (w : World) : Nat → Prop := fun j => F j ∨ w.heap.size ≤ j
theorem Fr.more {A : Option Addr} {n c : Nat} {l : Rl} (h : Fr F w A n c l) : Fr (more F w) w A n c l := h.keep (fun _ _ _ => rfl) fun _ => .inl
end
theorem q_at {q : List Cp} {i : Nat} {C : Cp} (h : q.reverse[i]? = some C) : q.drop (q.length - (i + 1)) = C :: q.drop (q.length - i) ∧ i < q.length := by
  have hi : i < q.length := by have := (List.getElem?_eq_some_iff.1 h).1; simpa using this
  rw [List.getElem?_reverse hi] at h
  refine ⟨?_, hi⟩
  rw [List.drop_eq_getElem_cons (by omega)]
  obtain ⟨h1, h2⟩ := List.getElem?_eq_some_iff.1 h
  congr 1
  · rw [← h2]
    congr 1
    omega
  · congr 1
    omega
section
variable {F : Nat → Prop} {w : World} {mb N : Nat} {P : Pd}
set_option maxRecDepth 100000 in
set_option maxHeartbeats 2000000 in
theorem doc_files (h : RD F w mb P) (hok : P.ok N) (hN : N ≤ 1900000000000) :
    Calls Try.prog 18 #[.pointer (some ⟨mb, 0, none⟩)] w (fun e w' => ∃ A n c, e = .returned (.slice A n c) ∧ Hid (∃ l, Fr (more F w) w' A n c l ∧ fsR l = P.files ∧ Below w.heap.size w w')) := by
  obtain ⟨As, ns, cs, ls, At, nt, ct, ts, h1, h2, h3, h4, h5⟩ := h
  have c1 := (h1.cell 1).trans rfl
  have c2 := (h1.cell 2).trans rfl
  have hsm := h3.1.small
  have hnt : nt = P.q.length := by
    have := congrArg List.length h3.2
    rw [List.length_map, List.length_reverse, h3.1.1] at this
    exact this
  have HH := Lib.hid (And.intro h1 (And.intro h2 (And.intro h3 (And.intro hok hnt))))
  clear h1 h2 h3 h4 h5 hok hnt
  go_enter Try.func18, Try.ntmps18
  go_wp2_with fail
  clear c1 c2
  go_loopw [3, 4] (fun v iv V => ∃ (i m : Nat) (Aq : Option Addr) (cq : Nat), v = .slice Aq m cq ∧ iv = .int .i64 i ∧ i ≤ nt ∧ Hid (∃ l, Fr (more F w) V Aq m cq l ∧ fsR l = fR P.safe (P.q.drop (P.q.length - i)) ∧ Below w.heap.size w V)) (fun _ iv _ => nt - (intOf iv).toNat)
  case atStart => exact ⟨0, ns, As, cs, rfl, rfl, by omega, Lib.hid ⟨ls, HH.out.2.1.1.more, by rw [Nat.sub_zero, List.drop_length]; exact HH.out.2.1.2, Below.refl _ _⟩⟩
  case round =>
    obtain ⟨i, m, Aq, cq, rfl, rfl, hi, hst⟩ := hrel
    have hst' := hst.out
    obtain ⟨l, hl1, hl2, hl3⟩ := hst'
    have c2 := ((HH.out.1.same (hl3.block mb HH.out.1.lt)).cell 2).trans rfl
    by_cases hlt : i < nt
    · obtain ⟨⟨C, x⟩, hx⟩ : ∃ x, ts[i]? = some x := ⟨_, List.getElem?_eq_getElem (by have := HH.out.2.2.1.1.1; omega)⟩
      have hq : P.q.reverse[i]? = some C := by rw [← HH.out.2.2.1.2, List.getElem?_map, hx]; rfl
      obtain ⟨hd, hiq⟩ := q_at hq
      have hch := HH.out.2.2.2.1.2.2.2.drop (P.q.length - (i + 1))
      rw [hd] at hch
      obtain ⟨g, rfl, p0, p1, p2, p3, p4⟩ := (HH.out.2.2.1.1.keep (F' := F) (w' := wr) (fun j _ hj => hl3.block j hj) fun _ => id).at hx
      have hxx := (HH.out.2.2.1.1.2.2.2 _ (List.mem_of_getElem? hx))
      obtain ⟨kx, hkx⟩ : ∃ k, x.d.length = k := ⟨_, rfl⟩
      simp only at p0 p1 p2 p3 p4 hxx
      rw [hkx] at p3 hxx
      have d1 : (0 : Int) ≤ (i : Int) := by omega
      have d2 : (i : Int) < (nt : Int) := by omega
      have hf : OkF N P.room (fsR l) := by rw [hl2]; exact hch.2.2.head
      have hml : m ≤ N := by have h0 : (l.map fun x => (x.1, Df.d x.2)).length ≤ N := hf.2.2.2.1; rwa [List.length_map, hl1.1] at h0
      have hC : OkC C (fsR l) := by rw [hl2]; exact hch.2.1
      have H1 := Lib.hid (doc_did hl1 (fun j hj => .inr (by have := hl3.size; omega)) (by omega) hf HH.out.2.2.2.1.2.1 C hC x hxx.2.1 kx hkx ((hxx.1.keep (F' := F) (w' := wr) (fun j _ hj => hl3.block j hj) fun _ => id).ns) hxx.2.2)
      have HN : Hid (fR P.safe (P.q.drop (P.q.length - (i + 1))) = didP C (fsR l)) := Lib.hid (by rw [hd, hl2]; rfl)
      clear hx hq hd hiq hch hxx hkx hf hml hC hst hl1 hl2
      go_wp2_with fail
      refine H1.out.mono ?_
      rintro e w2 ⟨A2, n2, c2, rfl, h2⟩
      have HE : Hid (∃ l, Fr (more F w) w2 A2 n2 c2 l ∧ fsR l = fR P.safe (P.q.drop (P.q.length - (i + 1))) ∧ Below w.heap.size w w2) := Lib.hid (by
        obtain ⟨l2, q1, q2, q3⟩ := h2.out
        exact ⟨l2, q1, by rw [HN.out, q2], hl3.trans (q3.mono hl3.size)⟩)
      clear h2 hl3
      go_wp2_with fail
      exact ⟨⟨i + 1, n2, A2, c2, rfl, rfl, by omega, HE⟩, by simp only [intOf]; omega⟩
    · obtain rfl : i = nt := by omega
      have HE : Hid (∃ l, Fr (more F w) wr Aq m cq l ∧ fsR l = P.files ∧ Below w.heap.size w wr) := Lib.hid ⟨l, hl1, by rw [hl2, ← HH.out.2.2.2.2, Nat.sub_self]; rfl, hl3⟩
      clear hl1 hl2 hl3 hst
      go_wp2_with fail
      go_ret
      exact ⟨Aq, m, cq, rfl, HE⟩
theorem used_app (l m : Rl) : used (fsR (l ++ m)) = used (fsR l) + used (fsR m) := by
  unfold used fsR mapV
  rw [List.map_append, List.map_append, List.sum_append]
theorem used_take {l : Rl} {i : Nat} {x : Nm × Df} (hx : l[i]? = some x) : used (fsR (l.take (i + 1))) = used (fsR (l.take i)) + x.2.d.length := by
  obtain ⟨hi, rfl⟩ := List.getElem?_eq_some_iff.1 hx
  rw [List.take_succ_eq_append_getElem hi, used_app]
  simp [used, mapV]
theorem used_le_take (l : Rl) (i : Nat) : used (fsR (l.take i)) ≤ used (fsR l) := by
  have e : l.take i ++ l.drop i = l := List.take_append_drop i l
  have h : used (fsR l) = used (fsR (l.take i)) + used (fsR (l.drop i)) := by
    conv => lhs; rw [← e]
    exact used_app _ _
  omega
set_option maxRecDepth 100000 in
set_option maxHeartbeats 2000000 in
theorem doc_used (h : RD F w mb P) (hok : P.ok N) (hN : N ≤ 1900000000000) :
    Calls Try.prog 15 #[.pointer (some ⟨mb, 0, none⟩)] w (fun e w' => e = .returned (.int .i64 (used P.files)) ∧ Below w.heap.size w w') := by
  have H1 := Lib.hid (doc_files h hok hN)
  have HU : Hid (used P.files ≤ 1073741824) := Lib.hid (by have := hok.files.2.2.1; have := hok.2.1; omega)
  clear h hok
  go_enter Try.func15, Try.ntmps15
  go_wp2_with fail
  refine H1.out.mono ?_
  rintro e w2 ⟨A, n, c, rfl, h2⟩
  have h2' := h2.out
  obtain ⟨l, hl1, hl2, hl3⟩ := h2'
  have HL := Lib.hid (And.intro hl1 (And.intro hl2 hl3))
  have hsm := hl1.small
  clear h2 hl1 hl2 hl3 H1
  obtain ⟨V, hV⟩ : ∃ V, V = w2 := ⟨_, rfl⟩
  subst hV
  go_wp2_with fail
  go_loopw [3, 5] (fun v iv U => ∃ (i u : Nat), v = .int .i64 u ∧ iv = .int .i64 i ∧ i ≤ n ∧ u ≤ 1073741824 ∧ U = V ∧ Hid (used (fsR (l.take i)) = u)) (fun _ iv _ => n - (intOf iv).toNat)
  case atStart => exact ⟨0, 0, rfl, rfl, by omega, by omega, rfl, Lib.hid (by simp [used, mapV])⟩
  case round =>
    obtain ⟨i, u, rfl, rfl, hi, hu, hw, hst⟩ := hrel
    subst hw
    by_cases hlt : i < n
    · obtain ⟨⟨t, x⟩, hx⟩ : ∃ x, l[i]? = some x := ⟨_, List.getElem?_eq_getElem (by have := HL.out.1.1; omega)⟩
      obtain ⟨g, rfl, _, p1⟩ := HL.out.1.at hx
      obtain ⟨kx, hkx⟩ : ∃ k, x.d.length = k := ⟨_, rfl⟩
      have hut := used_take hx
      have hul : used (fsR (l.take (i + 1))) ≤ 1073741824 := by
        have h1 := used_le_take l (i + 1)
        rw [HL.out.2.1] at h1
        have := HU.out
        omega
      simp only at hut
      rw [hst.out, hkx] at hut
      have HT : Hid (used (fsR (l.take (i + 1))) = u + kx) := Lib.hid hut
      have hb : u + kx ≤ 1073741824 := by omega
      simp only [Df.v] at p1
      rw [hkx] at p1
      have d1 : (0 : Int) ≤ (i : Int) := by omega
      have d2 : (i : Int) < (n : Int) := by omega
      clear hx hkx hut hul hst
      go_wp2_with fail
      exact ⟨⟨i + 1, u + kx, rfl, rfl, by omega, by omega, by trivial, HT⟩, by simp only [intOf]; omega⟩
    · obtain rfl : i = n := by omega
      have HE : Hid (used P.files = u) := Lib.hid (by rw [← hst.out, ← HL.out.2.1, List.take_of_length_le (by have := HL.out.1.1; omega)])
      clear hst
      go_wp2_with fail
      go_ret
      exact ⟨by rw [HE.out]; rfl, HL.out.2.2⟩
end
end Disk
end Go.Proofs.Ytdcppjpjlhbanaa
