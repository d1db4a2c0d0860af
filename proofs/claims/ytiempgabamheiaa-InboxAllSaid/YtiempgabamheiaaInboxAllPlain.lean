/-
  Writes that came one behind the other, and an inbox that they are told: on plain lists.
-/
import Derived.Test.YtiempgabamheiaaInboxSit
namespace Go.Proofs.Ytiempgabamheiaa
namespace InboxAll
open Inbox Vers Span

/-- A history, newest first: of each write its site and its past. -/
abbrev Hs := List (Int × List Sp)
def vec : Hs → List Int
  | [] => [0, 0, 0]
  | x :: r => (vec r).set (x.1 - 1).toNat ((vec r).getD (x.1 - 1).toNat 0 + 1)
def wrt (n : Nat) (s c : Int) (p : List Sp) : Fr := ((2, (n : Int)), (⟨#[107]⟩, [⟨s, c, p, false, ⟨#[]⟩⟩]), [])
def lst : Hs → List Fr
  | [] => []
  | x :: r => lst r ++ [wrt r.length x.1 ((vec r).getD (x.1 - 1).toNat 0 + 1) x.2]
def pst (v : List Int) (p : List Sp) : Prop := p.Pairwise (fun a b => a.1 < b.1) ∧ ∀ x ∈ p, 1 ≤ x.1 ∧ x.1 ≤ 3 ∧ x.2.1 = 1 ∧ 0 < x.2.2 ∧ x.2.2 = v.getD (x.1 - 1).toNat 0
def okH : Hs → Prop
  | [] => True
  | x :: r => okH r ∧ (1 ≤ x.1 ∧ x.1 ≤ 3) ∧ pst (vec r) x.2

theorem vec_len (h : Hs) : (vec h).length = 3 := by
  induction h with
  | nil => rfl
  | cons x r ih => rw [vec, List.length_set, ih]
theorem lst_len (h : Hs) : (lst h).length = h.length := by
  induction h with
  | nil => rfl
  | cons x r ih => rw [lst, List.length_append, ih]; rfl
theorem set_get {v : List Int} {k : Nat} (hk : k < v.length) (z : Int) (j : Nat) : (v.set k z).getD j 0 = if j = k then z else v.getD j 0 := by
  rw [List.getD_eq_getElem?_getD, List.getD_eq_getElem?_getD]
  by_cases h : j = k
  · subst h
    rw [if_pos rfl, List.getElem?_set_self hk]
    rfl
  · rw [if_neg h, List.getElem?_set_ne (by omega)]
theorem vec_get (x : Int × List Sp) (r : Hs) (hx : 1 ≤ x.1 ∧ x.1 ≤ 3) (j : Nat) : (vec (x :: r)).getD j 0 = if j = (x.1 - 1).toNat then (vec r).getD (x.1 - 1).toNat 0 + 1 else (vec r).getD j 0 := by
  rw [vec, set_get (by rw [vec_len]; omega)]
theorem vec_pos {h : Hs} (ho : okH h) (j : Nat) : 0 ≤ (vec h).getD j 0 ∧ (vec h).getD j 0 ≤ h.length := by
  induction h generalizing j with
  | nil =>
    match j with
    | 0 => decide
    | 1 => decide
    | 2 => decide
    | j + 3 => simp [vec]
  | cons x r ih =>
    rw [vec_get x r ho.2.1, List.length_cons]
    split
    · have := ih ho.1 (x.1 - 1).toNat
      omega
    · have := ih ho.1 j
      omega
theorem wrt_vr (n : Nat) (s c : Int) (p : List Sp) : vr (wrt n s c p) = ⟨s, c, p, false, ⟨#[]⟩⟩ := rfl
/-- Every dot up to the counts is among them. -/
theorem has {h : Hs} (ho : okH h) {s n : Int} (h1 : 1 ≤ s) (h3 : s ≤ 3) (hn : 1 ≤ n) (hn2 : n ≤ (vec h).getD (s - 1).toNat 0) : ∃ y ∈ lst h, (vr y).s = s ∧ (vr y).n = n := by
  induction h with
  | nil =>
    exfalso
    obtain rfl | rfl | rfl : s = 1 ∨ s = 2 ∨ s = 3 := by omega
    · have : n ≤ 0 := hn2
      omega
    · have : n ≤ 0 := hn2
      omega
    · have : n ≤ 0 := hn2
      omega
  | cons x r ih =>
    rw [vec_get x r ho.2.1] at hn2
    by_cases hs : (s - 1).toNat = (x.1 - 1).toNat
    · rw [if_pos hs] at hn2
      have hxs : s = x.1 := by have := ho.2.1; omega
      by_cases hl : n ≤ (vec r).getD (s - 1).toNat 0
      · obtain ⟨y, hy, e⟩ := ih ho.1 hl
        exact ⟨y, by rw [lst]; exact List.mem_append_left _ hy, e⟩
      · refine ⟨_, by rw [lst]; exact List.mem_append_right _ (List.mem_singleton.2 rfl), ?_⟩
        rw [wrt_vr]
        refine ⟨hxs.symm, ?_⟩
        rw [hs] at hl
        simp only
        omega
    · rw [if_neg hs] at hn2
      obtain ⟨y, hy, e⟩ := ih ho.1 hn2
      exact ⟨y, by rw [lst]; exact List.mem_append_left _ hy, e⟩
/-- Only those are. -/
theorem only {h : Hs} (ho : okH h) : ∀ y ∈ lst h, 1 ≤ (vr y).s ∧ (vr y).s ≤ 3 ∧ 1 ≤ (vr y).n ∧ (vr y).n ≤ (vec h).getD ((vr y).s - 1).toNat 0 := by
  induction h with
  | nil => exact fun y hy => absurd hy (by simp [lst])
  | cons x r ih =>
    intro y hy
    rw [vec_get x r ho.2.1]
    rw [lst] at hy
    rcases List.mem_append.1 hy with hy | hy
    · obtain ⟨a, b, c, d⟩ := ih ho.1 y hy
      refine ⟨a, b, c, ?_⟩
      split
      · rename_i e
        rw [e] at d
        omega
      · exact d
    · obtain rfl := List.mem_singleton.1 hy
      rw [wrt_vr]
      have := ho.2.1
      have := (vec_pos ho.1 (x.1 - 1).toNat).1
      simp only
      rw [if_pos trivial]
      omega
theorem dist {h : Hs} (ho : okH h) : (lst h).Pairwise fun a b => ¬ sdot a b := by
  induction h with
  | nil => exact List.Pairwise.nil
  | cons x r ih =>
    rw [lst, List.pairwise_append]
    refine ⟨ih ho.1, List.pairwise_singleton _ _, fun a ha b hb hab => ?_⟩
    obtain rfl := List.mem_singleton.1 hb
    have := only ho.1 a ha
    obtain ⟨e1, e2⟩ := hab
    rw [wrt_vr] at e1 e2
    simp only at e1 e2
    rw [e1] at this
    omega
theorem same_is {h : Hs} (ho : okH h) {a b : Fr} (ha : a ∈ lst h) (hb : b ∈ lst h) (hs : sdot a b) : a = b := by
  have hd := dist ho
  generalize lst h = l at hd ha hb
  induction l with
  | nil => cases ha
  | cons x l ih =>
    rw [List.pairwise_cons] at hd
    rcases List.mem_cons.1 ha with e | ha'
    · rcases List.mem_cons.1 hb with e' | hb'
      · rw [e, e']
      · exact (hd.1 b hb' (e ▸ hs)).elim
    · rcases List.mem_cons.1 hb with e' | hb'
      · exact (hd.1 a ha' (e' ▸ ⟨hs.1.symm, hs.2.symm⟩)).elim
      · exact ih hd.2 ha' hb'
theorem top_le {l : List Sp} {s m : Int} (h0 : 0 ≤ m) (h : ∀ x ∈ l, x.1 = s → x.2.2 ≤ m) : topF l s ≤ m := by
  induction l using rev_induct with
  | h0 => simpa [topF] using h0
  | h1 l x ih =>
    rw [topF_snoc]
    have := ih fun y hy => h y (List.mem_append_left _ hy)
    split
    · rename_i e
      have := h x (List.mem_append_right _ (by simp)) e
      omega
    · exact this
theorem pst_two {p : List Sp} (h1 : p.Pairwise fun a b => a.1 < b.1) (h2 : ∀ x ∈ p, 1 ≤ x.1) (h3 : ∀ x ∈ p, x.1 ≤ 3 - 1) : p.length ≤ 2 := by
  match p, h1, h2, h3 with
  | [], _, _, _ => simp
  | [_], _, _, _ => simp
  | [_, _], _, _, _ => simp
  | a :: b :: c :: r, h1, h2, h3 =>
    exfalso
    simp only [List.pairwise_cons] at h1
    have a1 := h2 a (by simp)
    have x1 := h1.1 b (by simp)
    have x2 := h1.2.1 c (by simp)
    have x3 := h3 c (by simp)
    omega
theorem past_right {h : Hs} (ho : okH h) (hl : h.length ≤ 60) {p : List Sp} (hp : pst (vec h) p) : Right p ∧ p.length ≤ 3 := by
  have hlen : p.length ≤ 3 := by
    match p, hp with
    | [], _ => simp
    | [_], _ => simp
    | [_, _], _ => simp
    | [_, _, _], _ => simp
    | a :: b :: c :: d :: r, hp =>
      exfalso
      obtain ⟨h1, h2⟩ := hp
      simp only [List.pairwise_cons] at h1
      have a1 := h2 a (by simp)
      have d1 := h2 d (by simp)
      have x1 := h1.1 b (by simp)
      have x2 := h1.2.1 c (by simp)
      have x3 := h1.2.2.1 d (by simp)
      omega
  refine ⟨⟨by omega, fun x hx => ?_, hp.1.imp fun h => .inl h⟩, hlen⟩
  obtain ⟨a, b, c, d, e⟩ := hp.2 x hx
  have := (vec_pos ho (x.1 - 1).toNat).2
  unfold okSp
  omega
theorem ok {h : Hs} (ho : okH h) (hl : h.length ≤ 60) : ∀ y ∈ lst h, okF y := by
  induction h with
  | nil => exact fun y hy => absurd hy (by simp [lst])
  | cons x r ih =>
    rw [List.length_cons] at hl
    intro y hy
    rw [lst] at hy
    rcases List.mem_append.1 hy with hy | hy
    · exact ih ho.1 (by omega) y hy
    · obtain rfl := List.mem_singleton.1 hy
      have hp := past_right ho.1 (by omega) ho.2.2
      have hv := vec_pos ho.1 (x.1 - 1).toNat
      have hx := ho.2.1
      have hV : okV ⟨x.1, (vec r).getD (x.1 - 1).toNat 0 + 1, x.2, false, ⟨#[]⟩⟩ := by
        refine ⟨by unfold okD; simp only; omega, hp.1, ?_, by show (0 : Nat) ≤ 256; omega, fun h => by cases h⟩
        have := top_le (l := x.2) (s := x.1) (m := (vec r).getD (x.1 - 1).toNat 0) hv.1 fun z hz e => by
          obtain ⟨_, _, _, _, e2⟩ := ho.2.2.2 z hz
          rw [e] at e2
          omega
        simp only
        omega
      refine ⟨⟨by show (1 : Nat) ≤ 1; omega, by show (1 : Nat) ≤ 32; omega, by simp [wrt], ⟨fun v hv => ?_, by simp [wrt]⟩, fun v hv hb => ?_⟩, rfl⟩
      · obtain rfl := List.mem_singleton.1 hv
        exact hV
      · obtain rfl := List.mem_singleton.1 hv
        obtain ⟨u, hu, z, hz, e1, e2, e3⟩ := hb
        obtain rfl := List.mem_singleton.1 hu
        obtain ⟨_, _, _, _, e4⟩ := ho.2.2.2 z hz
        simp only at e1 e2 e3
        rw [e1] at e4
        omega
/-- What a vector, and what waits, keep to. -/
def Inv (h : Hs) (P : List Fr) (now : List Int) : Prop :=
  (Vect.RightV now ∧ now.length = 3) ∧ (∀ k, now.getD k 0 ≤ (vec h).getD k 0) ∧ (∀ z ∈ P, z ∈ lst h ∧ ¬ covF now z) ∧ P.Pairwise fun a b => ¬ sdot a b
/-- It is covered, or waits. -/
def In (P : List Fr) (now : List Int) (y : Fr) : Prop := covF now y ∨ y ∈ P
theorem sub_len {α : Type} [DecidableEq α] : ∀ {l m : List α}, l.Nodup → (∀ x ∈ l, x ∈ m) → l.length ≤ m.length
  | [], _, _, _ => Nat.zero_le _
  | x :: l, m, hn, hs => by
    rw [List.nodup_cons] at hn
    have hx := hs x (by simp)
    have := sub_len (m := m.erase x) hn.2 fun y hy => (List.mem_erase_of_ne (fun e : y = x => hn.1 (by rw [← e]; exact hy))).2 (hs y (by simp [hy]))
    rw [List.length_erase_of_mem hx] at this
    have := List.length_pos_of_mem hx
    rw [List.length_cons]
    omega
theorem take {h : Hs} (ho : okH h) (hl : h.length ≤ 60) {P P2 : List Fr} {now : List Int} (hi : Inv h P now) {x : Fr} (hx : x ∈ lst h) {n : Nat} (hn : h.length = n) {a : Int} (hF : takeF (n : Int) P now x = (a, P2)) :
    (a = 1 ∨ a = 2 ∨ a = 3) ∧ Inv h P2 now ∧ In P2 now x ∧ ∀ z ∈ P, z ∈ P2 := by
  unfold takeF at hF
  rw [if_pos (ok ho hl x hx)] at hF
  by_cases hc : covF now x
  · rw [if_pos hc] at hF
    injection hF with e1 e2
    subst e1 e2
    exact ⟨.inl rfl, hi, .inl hc, fun _ h => h⟩
  · rw [if_neg hc] at hF
    by_cases hs : ∃ y ∈ P, sdot y x
    · rw [if_pos hs] at hF
      injection hF with e1 e2
      subst e1 e2
      obtain ⟨y, hy, hyx⟩ := hs
      have : y = x := same_is ho (hi.2.2.1 y hy).1 hx hyx
      exact ⟨.inr (.inr rfl), hi, .inr (this ▸ hy), fun _ h => h⟩
    · rw [if_neg hs] at hF
      have hnd : (x :: P).Nodup := by
        rw [List.nodup_cons]
        exact ⟨fun hm => hs ⟨x, hm, rfl, rfl⟩, hi.2.2.2.imp fun {a b} h (e : a = b) => h (by rw [e]; exact ⟨rfl, rfl⟩)⟩
      have hle := sub_len (m := lst h) hnd fun y hy => by
        rcases List.mem_cons.1 hy with rfl | hy
        · exact hx
        · exact (hi.2.2.1 y hy).1
      rw [List.length_cons, lst_len, hn] at hle
      rw [if_neg (by omega)] at hF
      injection hF with e1 e2
      subst e1 e2
      refine ⟨.inr (.inl rfl), ⟨hi.1, hi.2.1, fun z hz => ?_, ?_⟩, .inr (by simp), fun z hz => by simp [hz]⟩
      · rcases List.mem_append.1 hz with hz | hz
        · exact hi.2.2.1 z hz
        · obtain rfl := List.mem_singleton.1 hz
          exact ⟨hx, hc⟩
      · rw [List.pairwise_append]
        refine ⟨hi.2.2.2, List.pairwise_singleton _ _, fun y hy z hz => ?_⟩
        obtain rfl := List.mem_singleton.1 hz
        exact fun e => hs ⟨y, hy, e⟩
theorem cov_set {now : List Int} {s n : Int} (hs : 1 ≤ s) (hl : s ≤ now.length) (hb : now.getD (s - 1).toNat 0 + 1 = n) (y : Fr) : covF (now.set (s - 1).toNat n) y ↔ covF now y ∨ ((vr y).s = s ∧ (vr y).n = n ∧ 0 < n) := by
  unfold covF Vect.CoversV
  rw [List.length_set]
  by_cases h1 : 1 ≤ (vr y).s
  · by_cases h2 : (vr y).s ≤ now.length
    · rw [set_get (by omega)]
      split
      · rename_i e
        rw [show ((vr y).s - 1).toNat = (s - 1).toNat from e]
        have : (vr y).s = s := by omega
        omega
      · rename_i e
        have : ¬ (vr y).s = s := fun h => e (by rw [h])
        omega
    · have : ¬ (vr y).s = s := by omega
      omega
  · have : ¬ (vr y).s = s := by omega
    omega
theorem ready {h : Hs} (ho : okH h) {P : List Fr} {now : List Int} (hi : Inv h P now) {i : Nat} {x : Fr} (hx : P[i]? = some x) (hm : mayF now x) :
    (1 ≤ (vr x).s ∧ (vr x).s ≤ 3) ∧ Inv h (P.eraseIdx i) (now.set ((vr x).s - 1).toNat (vr x).n) ∧ ∀ y, In P now y → In (P.eraseIdx i) (now.set ((vr x).s - 1).toNat (vr x).n) y := by
  obtain ⟨hn, _⟩ := hm
  obtain ⟨hr, h1, h2, _, h5, h6⟩ := Vect.next_zero hn
  obtain ⟨hlt, hxx⟩ := List.getElem?_eq_some_iff.1 hx
  have hP : P = P.take i ++ x :: P.drop (i + 1) := by
    rw [← hxx, ← List.drop_eq_getElem_cons hlt, List.take_append_drop]
  have hE : P.eraseIdx i = P.take i ++ P.drop (i + 1) := List.eraseIdx_eq_take_drop_succ P i
  have hxm : x ∈ P := List.mem_of_getElem? hx
  have hxo := only ho x (hi.2.2.1 x hxm).1
  have hsub : ∀ z, z ∈ P.eraseIdx i → z ∈ P ∧ ¬ sdot z x := fun z hz => by
    have hd := hi.2.2.2
    rw [hP, List.pairwise_append, List.pairwise_cons] at hd
    rw [hE] at hz
    rcases List.mem_append.1 hz with hz | hz
    · exact ⟨by rw [hP]; exact List.mem_append_left _ hz, hd.2.2 z hz x (by simp)⟩
    · exact ⟨by rw [hP]; exact List.mem_append_right _ (List.mem_cons_of_mem _ hz), fun e => hd.2.1.1 z hz ⟨e.1.symm, e.2.symm⟩⟩
  have hcs := fun y => cov_set (now := now) (s := (vr x).s) (n := (vr x).n) h1 h2 h5.symm y
  refine ⟨⟨h1, by have := hi.1.2; omega⟩, ⟨⟨⟨by rw [List.length_set]; exact hr.1, by rw [List.length_set]; exact hr.2.1, fun z hz => ?_⟩, by rw [List.length_set]; exact hi.1.2⟩, fun k => ?_, fun z hz => ?_, hi.2.2.2.sublist (List.eraseIdx_sublist _ _)⟩, fun y hy => ?_⟩
  · rcases List.mem_or_eq_of_mem_set hz with hz | rfl
    · exact hr.2.2 z hz
    · have hk : ((vr x).s - 1).toNat < now.length := by omega
      have := hr.2.2 (now.getD ((vr x).s - 1).toNat 0) (by rw [List.getD_eq_getElem?_getD, List.getElem?_eq_getElem hk]; exact List.getElem_mem _)
      omega
  · rw [set_get (by omega)]
    split
    · rename_i e
      subst e
      exact hxo.2.2.2
    · exact hi.2.1 k
  · obtain ⟨a, b⟩ := hsub z hz
    refine ⟨(hi.2.2.1 z a).1, fun hc => ?_⟩
    rcases (hcs z).1 hc with hc | hc
    · exact (hi.2.2.1 z a).2 hc
    · exact b ⟨hc.1, hc.2.1⟩
  · rcases hy with hy | hy
    · exact .inl ((hcs y).2 (.inl hy))
    · rw [hP] at hy
      rcases List.mem_append.1 hy with hy | hy
      · exact .inr (by rw [hE]; exact List.mem_append_left _ hy)
      · rcases List.mem_cons.1 hy with rfl | hy
        · exact .inl ((hcs y).2 (.inr ⟨rfl, rfl, by omega⟩))
        · exact .inr (by rw [hE]; exact List.mem_append_right _ hy)
/-- All are covered, where each is covered or waits, and none that waits may be done. -/
theorem all {now : List Int} {P : List Fr} (hr : Vect.RightV now) (hl : now.length = 3) (hn : ∀ z ∈ P, ¬ mayF now z) {h : Hs} (ho : okH h) (hb : h.length ≤ 60) (hin : ∀ y ∈ lst h, In P now y) : ∀ y ∈ lst h, covF now y := by
  induction h with
  | nil => exact fun y hy => absurd hy (by simp [lst])
  | cons x r ih =>
    rw [List.length_cons] at hb
    have ih := ih ho.1 (by omega) fun y hy => hin y (by rw [lst]; exact List.mem_append_left _ hy)
    intro y hy
    rw [lst] at hy
    rcases List.mem_append.1 hy with hy | hy
    · exact ih y hy
    · obtain rfl := List.mem_singleton.1 hy
      have hcov : ∀ s n : Int, 1 ≤ s → s ≤ 3 → 1 ≤ n → n ≤ (vec r).getD (s - 1).toNat 0 → Vect.CoversV now s n := fun s n a b c d => by
        obtain ⟨z, hz, e1, e2⟩ := has ho.1 a b c d
        have := ih z hz
        unfold covF at this
        rwa [e1, e2] at this
      rcases hin _ (by rw [lst]; exact List.mem_append_right _ (List.mem_singleton.2 rfl)) with hc | hP
      · exact hc
      · have hnm := hn _ hP
        by_cases hc : covF now (wrt r.length x.1 ((vec r).getD (x.1 - 1).toNat 0 + 1) x.2)
        · exact hc
        · exfalso
          apply hnm
          have hx := ho.2.1
          have hv := vec_pos ho.1 (x.1 - 1).toNat
          have hk : (x.1 - 1).toNat < now.length := by omega
          have hz := hr.2.2 (now.getD (x.1 - 1).toNat 0) (by rw [List.getD_eq_getElem?_getD, List.getElem?_eq_getElem hk]; exact List.getElem_mem _)
          have hge : (vec r).getD (x.1 - 1).toNat 0 ≤ now.getD (x.1 - 1).toNat 0 := by
            by_cases h0 : 1 ≤ (vec r).getD (x.1 - 1).toNat 0
            · exact (hcov x.1 _ hx.1 hx.2 h0 (Int.le_refl _)).2.2.2
            · omega
          have hlt : now.getD (x.1 - 1).toNat 0 < (vec r).getD (x.1 - 1).toNat 0 + 1 := by
            unfold covF Vect.CoversV at hc
            rw [wrt_vr] at hc
            simp only at hc
            omega
          refine ⟨?_, fun z hz => ?_⟩
          · rw [wrt_vr]
            simp only
            show Vect.nextV now x.1 = (x.1, _, 0)
            unfold Vect.nextV
            rw [if_pos ⟨hr, hx.1, by omega⟩, if_neg (by omega), show now.getD (x.1 - 1).toNat 0 = (vec r).getD (x.1 - 1).toNat 0 by omega]
          · obtain ⟨a, b, _, c, d⟩ := ho.2.2.2 z hz
            exact hcov z.1 z.2.2 a b (by omega) (by omega)
theorem ends {h : Hs} (ho : okH h) (hb : h.length ≤ 60) {P : List Fr} {now : List Int} (hi : Inv h P now) (hn : ∀ z ∈ P, ¬ mayF now z) (hin : ∀ y ∈ lst h, In P now y) : now = vec h ∧ P = [] := by
  have ha := all hi.1.1 hi.1.2 hn ho hb hin
  constructor
  · refine List.ext_getElem (by rw [hi.1.2, vec_len]) fun k h1 h2 => ?_
    have hle := hi.2.1 k
    have h0 := hi.1.1.2.2 (now.getD k 0) (by rw [List.getD_eq_getElem?_getD, List.getElem?_eq_getElem h1]; exact List.getElem_mem _)
    have e1 : now.getD k 0 = now[k] := by simp [h1]
    have e2 : (vec h).getD k 0 = (vec h)[k] := by simp [h2]
    have hk3 : k < 3 := by rw [← hi.1.2]; exact h1
    by_cases hp : 1 ≤ (vec h).getD k 0
    · obtain ⟨y, hy, f1, f2⟩ := has ho (s := (k : Int) + 1) (n := (vec h).getD k 0) (by omega) (by omega) hp (by rw [show ((k : Int) + 1 - 1).toNat = k by omega]; exact Int.le_refl _)
      have := ha y hy
      unfold covF at this
      rw [f1, f2] at this
      have := this.2.2.2
      rw [show ((k : Int) + 1 - 1).toNat = k by omega] at this
      omega
    · omega
  · rcases P with _ | ⟨z, P⟩
    · rfl
    · obtain ⟨a, b⟩ := hi.2.2.1 z (by simp)
      exact (b (ha z a)).elim
theorem inv_start {h : Hs} (ho : okH h) : Inv h [] [0, 0, 0] :=
  ⟨⟨by decide, rfl⟩, fun k => by
    have := (vec_pos ho k).1
    match k with
    | 0 => exact this
    | 1 => exact this
    | 2 => exact this
    | k + 3 => simpa using this, by simp, List.Pairwise.nil⟩
theorem Inv.len {h : Hs} {P : List Fr} {now : List Int} (hi : Inv h P now) : P.length ≤ h.length := by
  rw [← lst_len]
  exact sub_len (hi.2.2.2.imp fun {a b} h (e : a = b) => h (by rw [e]; exact ⟨rfl, rfl⟩)) fun x hx => (hi.2.2.1 x hx).1
end InboxAll
end Go.Proofs.Ytiempgabamheiaa
