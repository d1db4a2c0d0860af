/-
  The document's sessions in memory.
-/
import Derived.Test.YtnmkhccgaedigaaSessAwake
namespace Go.Proofs.Ytnmkhccgaedigaa
namespace Sess
open Go.RowKit Blk Go.Maps
attribute [local go_sem ↓] Go.wp_at_zero Go.wp_at_succ
/-- A session with its token's slice. -/
abbrev Rs := Sn × Option Addr × Nat
def rtv (x : Rs) : Value := .slice x.2.1 x.1.2.1.length x.2.2
def rc (x : Rs) : List Value := [.int .i64 x.1.1, rtv x, .int .i64 x.1.2.2]
def rcs (l : List Rs) : List Value := l.flatMap rc
theorem rc_length (x : Rs) : (rc x).length = 3 := rfl
theorem rcs_cons (x : Rs) (l : List Rs) : rcs (x :: l) = rc x ++ rcs l := by simp [rcs]
theorem rcs_append (l m : List Rs) : rcs (l ++ m) = rcs l ++ rcs m := by simp [rcs]
theorem rcs_one (x : Rs) : rcs [x] = rc x := by simp [rcs]
theorem rcs_length (l : List Rs) : (rcs l).length = l.length * 3 := by
  induction l with
  | nil => rfl
  | cons x l ih =>
    rw [rcs_cons, List.length_append, ih, rc_length, List.length_cons]
    omega
theorem rcs_at (l : List Rs) : ∀ (j : Nat) (x : Rs), l[j]? = some x → ∀ r, r < 3 → (rcs l)[j * 3 + r]? = (rc x)[r]? := by
  induction l with
  | nil => intro j x h; simp at h
  | cons y l ih =>
    intro j x h r hr
    rw [rcs_cons]
    rcases j with _ | j
    · simp at h
      subst h
      rw [List.getElem?_append_left (by rw [rc_length]; omega)]
      simp
    · rw [List.getElem?_append_right (by rw [rc_length]; omega), rc_length, show (j + 1) * 3 + r - 3 = j * 3 + r by omega]
      exact ih j x (by simpa using h) r hr
theorem rcs_set (l : List Rs) : ∀ (j : Nat) (x y : Rs) (r : Nat) (v : Value), l[j]? = some x → r < 3 → (rc x).set r v = rc y → (rcs l).set (j * 3 + r) v = rcs (l.set j y) := by
  induction l with
  | nil => intro j x y r v h; simp at h
  | cons z l ih =>
    intro j x y r v h hr he
    rw [rcs_cons]
    rcases j with _ | j
    · simp at h
      subst h
      rw [List.set_append_left _ _ (by rw [rc_length]; omega), Nat.zero_mul, Nat.zero_add, he, List.set_cons_zero, rcs_cons]
    · rw [List.set_append_right _ _ (by rw [rc_length]; omega), rc_length, show (j + 1) * 3 + r - 3 = j * 3 + r by omega, ih j x y r v (by simpa using h) hr he, List.set_cons_succ, rcs_cons]
def RO (G : Nat → Prop) (w : World) (rb : Nat) (N : Int) (A : Option Addr) (c n : Nat) (l : List Rs) : Prop :=
  (Bn rb 31 [.int .i64 N, .slice A n c] w ∧ w.ownsRow 0 54 3 (.slice A n c) n (rcs l)) ∧
  (l.length = n ∧ ∀ x ∈ l, w.ownsRow 0 5 1 (rtv x) x.1.2.1.length (nums .u8 x.1.2.1) ∧ ∀ g, (rtv x).ownBlock = some g → G g) ∧
  (G rb ∧ (∀ g, (Value.slice A n c).ownBlock = some g → G g) ∧ ∀ k, G k → k < w.heap.size)
/-- The document's sessions, as they are told. -/
def RI (G : Nat → Prop) (w : World) (rb : Nat) (N : Int) (L : List Sn) : Prop := ∃ A c l, l.map Prod.fst = L ∧ RO G w rb N A c l.length l
section
variable {G G' : Nat → Prop} {w w' : World} {rb c n : Nat} {N : Int} {A : Option Addr} {l : List Rs} {L : List Sn}
theorem RO.keep (h : RO G w rb N A c n l) (hs : w.heap.size ≤ w'.heap.size) (hk : ∀ k, G k → w'.heap[k]? = w.heap[k]?) : RO G w' rb N A c n l := by
  obtain ⟨⟨h1, h2⟩, ⟨h3, h4⟩, h5, h6, h7⟩ := h
  exact ⟨⟨h1.same (hk _ h5), own_keep h2 fun g hg => hk g (h6 g hg)⟩, ⟨h3, fun x hx => ⟨own_keep (h4 x hx).1 fun g hg => hk g ((h4 x hx).2 g hg), (h4 x hx).2⟩⟩, h5, h6, fun k hk => Nat.lt_of_lt_of_le (h7 k hk) hs⟩
theorem RO.lt (h : RO G w rb N A c n l) : ∀ k, G k → k < w.heap.size := h.2.2.2.2
theorem RO.below (h : RO G w rb N A c n l) (hb : Below w.heap.size w w') : RO G w' rb N A c n l := h.keep hb.size fun k hk => hb.block k (h.lt k hk)
theorem RI.lt (h : RI G w rb N L) : ∀ k, G k → k < w.heap.size := by obtain ⟨A, c, l, _, h⟩ := h; exact h.lt
theorem RI.below (h : RI G w rb N L) (hb : Below w.heap.size w w') : RI G w' rb N L := by obtain ⟨A, c, l, e, h⟩ := h; exact ⟨A, c, l, e, h.below hb⟩
theorem RI.chg {F : Nat → Prop} (h : RI G w rb N L) (hb : Chg F w w') (hF : ∀ k, G k → ¬ F k) : RI G w' rb N L := by obtain ⟨A, c, l, e, h⟩ := h; exact ⟨A, c, l, e, h.keep hb.size fun k hk => hb.block k (h.lt k hk) (hF k hk)⟩
/-- A session more. -/
theorem RO.push {v w7 : World} {g7 cap7 B : Nat} (h : RO G w rb N A c n l) (hb : Below w.heap.size w v) (site : Int)
    (ho7 : w7.ownsRow 0 54 3 (.slice (some ⟨g7, 0, none⟩) (n + 1) cap7) (n + 1) (rcs l ++ rc ((site, [], 0), none, 0))) (hg7 : v.grownBy w7 (Value.slice A n c).ownBlock) (hat : (Value.slice A n c).ownBlock = some g7 ∨ g7 = B) (hB : w.heap.size ≤ B) (hlt : g7 < w7.heap.size) :
    RO (fun k => G k ∨ (w.heap.size ≤ k ∧ k < w7.heap.size)) (w7.setCell ⟨rb, 1, none⟩ (.slice (some ⟨g7, 0, none⟩) (n + 1) cap7)) rb N (some ⟨g7, 0, none⟩) cap7 (n + 1) (l ++ [((site, [], 0), none, 0)]) := by
  have h' := h.below hb
  obtain ⟨_, _, h5w, h6w, h7w⟩ := h
  obtain ⟨⟨h1, h2⟩, ⟨h3, h4⟩, h5, h6, h7⟩ := h'
  have k7 : ∀ {k}, k < v.heap.size → (Value.slice A n c).ownBlock ≠ some k → w7.heap[k]? = v.heap[k]? := fun hk hne => hg7.block _ hk fun q => hne q.symm
  have n1 : rb ≠ g7 := fun q => by
    rcases hat with e | e
    · exact own_ne h2 h1 (by decide) (by rw [e, q])
    · have := h7w rb h5w
      omega
  have b7 := h1.same (k7 (h7 rb h5) (own_ne h2 h1 (by decide)))
  have hgs := gset w7 rb 1 (.slice (some ⟨g7, 0, none⟩) (n + 1) cap7)
  have s7 := hg7.size
  have ss := hgs.size
  refine ⟨⟨b7.set 1 _, ?_⟩, ⟨by simp [h3], fun x hx => ?_⟩, .inl h5, fun g hg => ?_, fun k hk => ?_⟩
  · rw [rcs_append, rcs_one]
    refine own_keep ho7 fun g hg => hgs.block g ?_ fun q => ?_
    · have hg' : g7 = g := by injection hg
      omega
    · have hg' : g7 = g := by injection hg
      injection q with q
      exact n1 (q.symm.trans hg'.symm)
  · rcases List.mem_append.1 hx with hx | hx
    · obtain ⟨o1, o2⟩ := h4 x hx
      refine ⟨own_keep (own_keep o1 fun g hg => k7 (o1.lt g hg).2 fun q => own_ne2 o1 h2 (by decide) hg q) fun g hg => hgs.block g (by have := (o1.lt g hg).2; omega) fun q => own_ne o1 h1 (by decide) (by rw [hg, q]), fun g hg => .inl (o2 g hg)⟩
    · rw [List.mem_singleton] at hx
      subst hx
      exact ⟨World.ownsRow_nil _ _ _ _, fun g hg => by cases hg⟩
  · have hg' : g7 = g := by injection hg
    subst hg'
    rcases hat with q | q
    · exact .inl (h6 _ q)
    · exact .inr ⟨by omega, hlt⟩
  · rcases hk with hk | hk
    · have := h7 k hk
      omega
    · omega
/-- A session's cell is written; its token may be new. -/
theorem RO.turn {i r g : Nat} {x y : Rs} {v : Value} (h : RO G w rb N A c n l) (hx : l[i]? = some x) (hA : A = some ⟨g, 0, none⟩) (hr : r < 3) (he : (rc x).set r v = rc y)
    (hy : w.ownsRow 0 5 1 (rtv y) y.1.2.1.length (nums .u8 y.1.2.1)) (hyG : ∀ g, (rtv y).ownBlock = some g → G' g) (hG : ∀ k, G k → G' k) (hlt : ∀ k, G' k → k < w.heap.size) :
    RO G' (w.setCell ⟨g, i * 3 + r, none⟩ v) rb N A c n (l.set i y) := by
  subst hA
  obtain ⟨⟨h1, h2⟩, ⟨h3, h4⟩, h5, h6, h7⟩ := h
  have hgs := gset w g (i * 3 + r) v
  have hst := (h2.stored (i * 3 + r) v).1
  rw [rcs_set l i x y r v hx hr he] at hst
  have htok : ∀ {z : Rs}, w.ownsRow 0 5 1 (rtv z) z.1.2.1.length (nums .u8 z.1.2.1) → (w.setCell ⟨g, i * 3 + r, none⟩ v).ownsRow 0 5 1 (rtv z) z.1.2.1.length (nums .u8 z.1.2.1) := fun {z} hz =>
    own_keep hz fun g' hg' => hgs.block g' (hz.lt g' hg').2 fun q => own_ne2 hz h2 (by decide) hg' (by injection q with q; rw [q]; rfl)
  refine ⟨⟨h1.kept hgs fun q => own_ne h2 h1 (by decide) (by injection q with q; rw [q]; rfl), hst⟩, ⟨by simpa using h3, fun z hz => ?_⟩, hG _ h5, fun g' hg' => hG _ (h6 g' hg'), fun k hk => Nat.lt_of_lt_of_le (hlt k hk) hgs.size⟩
  rcases List.mem_or_eq_of_mem_set hz with hz | rfl
  · exact ⟨htok (h4 z hz).1, fun g' hg' => hG _ ((h4 z hz).2 g' hg')⟩
  · exact ⟨htok hy, hyG⟩
end
end Sess
end Go.Proofs.Ytnmkhccgaedigaa
