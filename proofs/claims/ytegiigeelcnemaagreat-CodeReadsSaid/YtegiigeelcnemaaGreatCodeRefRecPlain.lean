/-
  Plain words of layer 6: records and messages as the document takes them.
-/
import Derived.Test.YtegiigeelcnemaaGreatGCodeB
import Derived.Test.YtegiigeelcnemaaGreatCodeMsgPlain
namespace Go.Proofs.YtegiigeelcnemaaGreat
namespace Code
open Num Span Vers

/-! ### Records -/
def tailQ (zs : List Int) (p : Nat) : Option ((Bool × ByteArray) × Nat) :=
  match numP zs p with
  | none => none
  | some (k, q) =>
    if k = 0 then (match strP (zs.length : Int) zs q with
      | none => none
      | some (x, r) => some ((false, x), r))
    else if k = 1 then some ((true, ⟨#[]⟩), q)
    else none
def verQ (zs : List Int) (p : Nat) : Option (Vr × Nat) :=
  match numP zs p with
  | none => none
  | some (s, p1) =>
    match numP zs p1 with
    | none => none
    | some (n, p2) =>
      match setR zs p2 with
      | none => none
      | some (past, p3) =>
        match tailQ zs p3 with
        | none => none
        | some ((g, x), p4) => some (⟨s, n, past, g, x⟩, p4)
def recQ (zs : List Int) (p : Nat) : Option (Rc × Nat) := pairP (strP (zs.length : Int) zs) (cseqP (verQ zs) zs) p
theorem strP_ok {zs : List Int} (hby : ∀ z ∈ zs, 0 ≤ z ∧ z ≤ 255) {m : Int} {p q : Nat} {x : ByteArray} (hp : p ≤ zs.length) (h : strP m zs p = some (x, q)) : (p < q ∧ q ≤ zs.length) ∧ Std zs p (strL x) ∧ q = p + (strL x).length := by
  obtain ⟨y, hy, rfl⟩ := strP_inv h
  obtain ⟨a1, a2, a3, a4⟩ := textP_ok hby hp hy
  have b1 := std_le a1
  have b2 := txtL_pos y
  unfold strL
  rw [strNums_of y a4]
  exact ⟨⟨by omega, by omega⟩, a1, a2⟩
theorem strP_put {zs : List Int} {m : Int} {x : ByteArray} {p : Nat} (hm : (x.size : Int) ≤ m) (hb : zs.length ≤ 9223372036854775807) (h : Std zs p (strL x)) : strP m zs p = some (x, p + (strL x).length) := by
  unfold strP
  rw [textP_put (by rw [strNums_length]; exact hm) hb h]
  simp only
  rw [strOf_nums]
  rfl
theorem strL_ge (x : ByteArray) : x.size + 1 ≤ (strL x).length := by
  have h1 := putL_len ((strNums x).length : Int)
  unfold strL txtL
  rw [List.length_append, strNums_length] at *
  omega
theorem tailQ_put {zs : List Int} {v : Vr} {p : Nat} (hv : okV v) (hb : zs.length ≤ 9223372036854775807) (h : Std zs p (tailL v)) : tailQ zs p = some ((v.gone, v.val), p + (tailL v).length) := by
  obtain ⟨_, _, _, h5, h6⟩ := hv
  unfold tailQ
  by_cases hg : v.gone = true
  · have hL : tailL v = putL 1 := if_pos hg
    rw [hL] at h ⊢
    rw [numP_put (by omega) (by omega) h]
    simp only
    rw [if_neg (by decide), if_pos (by trivial), hg, h6 hg]
  · have hL : tailL v = putL 0 ++ strL v.val := if_neg hg
    rw [hL] at h ⊢
    obtain ⟨h1, h2⟩ := std_append.1 h
    have hle := std_le h2
    have hge := strL_ge v.val
    rw [numP_put (by omega) (by omega) h1]
    simp only
    rw [if_pos (by trivial), strP_put (by omega) hb h2]
    simp only
    rw [List.length_append, Nat.add_assoc]
    have hg' : v.gone = false := by simpa using hg
    rw [hg']
theorem tailQ_ok {zs : List Int} (hby : ∀ z ∈ zs, 0 ≤ z ∧ z ≤ 255) {p q : Nat} {g : Bool} {x : ByteArray} (hp : p ≤ zs.length) (h : tailQ zs p = some ((g, x), q)) :
    p < q ∧ q ≤ zs.length ∧ ∀ v : Vr, v.gone = g → v.val = x → Std zs p (tailL v) ∧ q = p + (tailL v).length := by
  unfold tailQ at h
  split at h
  · cases h
  · rename_i k r h1
    obtain ⟨a1, a2, a3, a4⟩ := numP_ok hby hp h1
    have al := std_le a1
    have ap := putL_len k
    split at h
    · rename_i hk
      subst hk
      split at h
      · cases h
      · rename_i y u h2
        obtain ⟨⟨b1, b2⟩, b3, b4⟩ := strP_ok hby (by omega) h2
        simp only [Option.some.injEq, Prod.mk.injEq] at h
        obtain ⟨⟨rfl, rfl⟩, rfl⟩ := h
        refine ⟨by omega, by omega, fun v hg hx => ?_⟩
        have hL : tailL v = putL 0 ++ strL v.val := if_neg (by rw [hg]; decide)
        rw [hL, hx]
        refine ⟨std_append.2 ⟨a1, by rw [← a2]; exact b3⟩, ?_⟩
        rw [List.length_append]
        omega
    · split at h
      · rename_i hk
        subst hk
        simp only [Option.some.injEq, Prod.mk.injEq] at h
        obtain ⟨⟨rfl, rfl⟩, rfl⟩ := h
        refine ⟨by omega, by omega, fun v hg hx => ?_⟩
        have hL : tailL v = putL 1 := if_pos hg
        rw [hL]
        exact ⟨a1, a2⟩
      · cases h
theorem verQ_put {zs : List Int} (hb : zs.length ≤ 9223372036854775807) (v : Vr) (p : Nat) (hv : okV v) (h : Std zs p (verL v)) : verQ zs p = some (v, p + (verL v).length) := by
  obtain ⟨h123, h4⟩ := std_append.1 h
  obtain ⟨h12, h3⟩ := std_append.1 h123
  obtain ⟨h1, h2⟩ := std_append.1 h12
  have hd := hv.1
  unfold okD at hd
  have hR := hv.2.1
  have hRl := hR.1
  rw [List.length_append, ← Nat.add_assoc] at h3
  rw [List.length_append, List.length_append, ← Nat.add_assoc, ← Nat.add_assoc] at h4
  unfold verQ
  rw [numP_put (by omega) (by omega) h1]
  simp only
  rw [numP_put (by omega) (by omega) h2]
  simp only
  rw [setR_put (by omega) hR.2.1 h3]
  simp only
  rw [tailQ_put hv hb h4]
  simp only
  unfold verL
  simp only [List.length_append]
  rw [show p + (putL v.s).length + (putL v.n).length + (setL v.past).length + (tailL v).length = p + ((putL v.s).length + (putL v.n).length + (setL v.past).length + (tailL v).length) by omega]
theorem verQ_ok {zs : List Int} (hby : ∀ z ∈ zs, 0 ≤ z ∧ z ≤ 255) (v : Vr) (p q : Nat) (hp : p ≤ zs.length) (h : verQ zs p = some (v, q)) :
    (p < q ∧ q ≤ zs.length) ∧ (okV v → Std zs p (verL v) ∧ q = p + (verL v).length) := by
  unfold verQ at h
  split at h
  · cases h
  · rename_i s r h1
    obtain ⟨a1, a2, a3, a4⟩ := numP_ok hby hp h1
    have al := std_le a1
    have ap := putL_len s
    split at h
    · cases h
    · rename_i n u h2
      obtain ⟨b1, b2, b3, b4⟩ := numP_ok hby (by omega) h2
      have bl := std_le b1
      split at h
      · cases h
      · rename_i l t h3
        have c0 := setR_len hby (by omega) h3
        obtain ⟨c1, c2⟩ := setR_ok hby (by omega) h3
        split at h
        · cases h
        · rename_i g x y h4
          obtain ⟨d1, d2, d4⟩ := tailQ_ok hby (by omega) h4
          simp only [Option.some.injEq, Prod.mk.injEq] at h
          obtain ⟨rfl, rfl⟩ := h
          refine ⟨⟨by omega, d2⟩, fun hv => ?_⟩
          obtain ⟨e1, e2⟩ := c2 hv.2.1.2.1
          obtain ⟨f1, f2⟩ := d4 ⟨s, n, l, g, x⟩ rfl rfl
          unfold verL
          refine ⟨std_append.2 ⟨std_append.2 ⟨std_append.2 ⟨a1, by rw [← a2]; exact b1⟩, ?_⟩, ?_⟩, ?_⟩
          · rw [List.length_append, ← Nat.add_assoc, ← a2, ← b2]
            exact e1
          · rw [List.length_append, List.length_append, ← Nat.add_assoc, ← Nat.add_assoc, ← a2, ← b2, ← e2]
            exact f1
          · simp only [List.length_append]
            omega
theorem cseq_seq {α : Type} {P : Nat → Option (α × Nat)} {zs : List Int} {p : Nat} {r : List α × Nat} (h : cseqP P zs p = some r) : seqP P zs p = some r := by
  unfold cseqP cntP at h
  unfold seqP
  rcases hn : numP zs p with _ | ⟨n, q⟩
  · rw [hn] at h
    cases h
  · rw [hn] at h
    simp only at h ⊢
    by_cases hle : n ≤ (zs.length : Int) - q
    · rw [if_pos hle] at h
      exact h
    · rw [if_neg hle] at h
      cases h
/-- A list that has no more than there are bytes. -/
theorem Par.clist {zs : List Int} {α : Type} {P : Nat → Option (α × Nat)} {enc : α → List Int} {ok gets : α → Prop} (h : Par zs P enc ok gets) (h1 : ∀ x, 1 ≤ (enc x).length) (hby : ∀ z ∈ zs, 0 ≤ z ∧ z ≤ 255) (hb : zs.length ≤ 4294967296) :
    Par zs (cseqP P zs) (seqL enc) (fun l => ∀ x ∈ l, ok x) (fun l => l.length ≤ 9223372036854775807 ∧ ∀ x ∈ l, gets x) where
  put := fun _l _p hg hk hs => cseqP_put (ok := fun x => gets x ∧ ok x) (fun x p hx hs => h.put x p hx.1 hx.2 hs) (fun x _ => h1 x) hg.1 (fun x hx => ⟨hg.2 x hx, hk x hx⟩) hs
  goes := fun l p q hp hx => (h.list hby hb).goes l p q hp (cseq_seq hx)
  got := fun l p q hp hx => (h.list hby hb).got l p q hp (cseq_seq hx)
  back := fun l p q hp hx hk => (h.list hby hb).back l p q hp (cseq_seq hx) hk
theorem par_verQ {zs : List Int} (hby : ∀ z ∈ zs, 0 ≤ z ∧ z ≤ 255) (hb : zs.length ≤ 4294967296) : Par zs (verQ zs) verL okV (fun _ => True) where
  put := fun x p _ hk hs => verQ_put (by omega) x p hk hs
  goes := fun x p q hp h => (verQ_ok hby x p q hp h).1
  got := fun _ _ _ _ _ => trivial
  back := fun x p q hp h hk => (verQ_ok hby x p q hp h).2 hk
theorem par_strQ {zs : List Int} (hby : ∀ z ∈ zs, 0 ≤ z ∧ z ≤ 255) (hb : zs.length ≤ 4294967296) : Par zs (strP (zs.length : Int) zs) strL (fun _ => True) (fun _ => True) where
  put := fun x p _ _ hs => strP_put (by have := std_le hs; have := strL_ge x; omega) (by omega) hs
  goes := fun x p q hp h => (strP_ok hby hp h).1
  got := fun _ _ _ _ _ => trivial
  back := fun x p q hp h _ => (strP_ok hby hp h).2
theorem par_recQ {zs : List Int} (hby : ∀ z ∈ zs, 0 ≤ z ∧ z ≤ 255) (hb : zs.length ≤ 4294967296) : Par zs (recQ zs) recL okR (fun r => r.2.length ≤ 9223372036854775807) where
  put := fun x p hg hk hs => by
    have h := ((par_strQ hby hb).pair ((par_verQ hby hb).clist verL_pos hby hb)).put x p ⟨trivial, hg, fun _ _ => trivial⟩ ⟨trivial, hk.2.2.2.1.1⟩ hs
    exact h
  goes := fun x p q hp h => ((par_strQ hby hb).pair ((par_verQ hby hb).clist verL_pos hby hb)).goes x p q hp h
  got := fun x p q hp h => (((par_strQ hby hb).pair ((par_verQ hby hb).clist verL_pos hby hb)).got x p q hp h).2.1
  back := fun x p q hp h hk => ((par_strQ hby hb).pair ((par_verQ hby hb).clist verL_pos hby hb)).back x p q hp h ⟨trivial, hk.2.2.2.1.1⟩
/-- The two ways of taking come to one, where both are for the same. -/
theorem whole_eq {α : Type} {zs : List Int} {P Q : Nat → Option (α × Nat)} {enc : α → List Int} {ok1 g1 ok2 g2 : α → Prop} {R : α → Prop} [DecidablePred R] {x0 : α}
    (hP : Par zs P enc ok1 g1) (hQ : Par zs Q enc ok2 g2) (h1 : ∀ x, R x → ok1 x) (h2 : ∀ x, R x → ok2 x) (h12 : ∀ x, R x → g1 x → g2 x) (h21 : ∀ x, R x → g2 x → g1 x) : wholeF (P 0) zs.length R x0 = wholeF (Q 0) zs.length R x0 := by
  have key : ∀ {P Q : Nat → Option (α × Nat)} {ok1 g1 ok2 g2 : α → Prop}, Par zs P enc ok1 g1 → Par zs Q enc ok2 g2 → (∀ x, R x → ok1 x) → (∀ x, R x → ok2 x) → (∀ x, R x → g1 x → g2 x) → ∀ x, P 0 = some (x, zs.length) → R x → Q 0 = some (x, zs.length) := by
    intro P Q ok1 g1 ok2 g2 hP hQ h1 h2 h12 x hx hR
    obtain ⟨b1, b2⟩ := hP.back x 0 _ (by omega) hx (h1 x hR)
    have h := hQ.put x 0 (h12 x hR (hP.got x 0 _ (by omega) hx)) (h2 x hR) b1
    rw [h, ← b2]
  by_cases hx : ∃ x, P 0 = some (x, zs.length) ∧ R x
  · obtain ⟨x, hx, hR⟩ := hx
    rw [wholeF_ok hx rfl hR, wholeF_ok (key hP hQ h1 h2 h12 x hx hR) rfl hR]
  · rw [wholeF_bad (fun x q h hk => hx ⟨x, by rw [h, hk.1], hk.2⟩), wholeF_bad (fun x q h hk => hx ⟨x, key hQ hP h2 h1 h21 x (by rw [h, hk.1]) hk.2, hk.2⟩)]
theorem recQ_ref {zs : List Int} (hby : ∀ z ∈ zs, 0 ≤ z ∧ z ≤ 255) (hb : zs.length ≤ 4294967296) (x0 : Rc) : wholeF (recQ zs 0) zs.length okR x0 = wholeF (recP zs 0) zs.length okR x0 :=
  whole_eq (par_recQ hby hb) (par_rec hby hb) (fun _ h => h) (fun _ h => h) (fun x h _ => h.2.1) (fun x h _ => by have := h.2.2.1; omega)

/-! ### Messages -/
def addrQ (zs : List Int) : Nat → Option ((Int × Int) × Nat) := pairP (numP zs) (numP zs)
def msgQ (zs : List Int) : Nat → Option (Ms × Nat) := pairP (numP zs) (pairP (addrQ zs) (pairP (addrQ zs) (pairP (numP zs) (pairP (numP zs) (pairP (numP zs) (pairP (numP zs) (pairP (strP (zs.length : Int) zs) (pairP (cseqP (recQ zs) zs) (pairP (cseqP (numP zs) zs) (pairP (cseqP (numP zs) zs) (pairP (cseqP (hshP zs) zs) (cseqP (numP zs) zs))))))))))))
theorem hshL_pos (h : Int) : 1 ≤ (hshL h).length := by
  have := putL_len (h / 4294967296)
  unfold hshL
  rw [List.length_append]
  omega
theorem msgQ_ref {zs : List Int} (hby : ∀ z ∈ zs, 0 ≤ z ∧ z ≤ 255) (hb : zs.length ≤ 4294967296) [DecidablePred okM] (x0 : Ms) : wholeF (msgQ zs 0) zs.length okM x0 = wholeF (msgP zs 0) zs.length okM x0 := by
  have hnum := par_num hby
  have haddr : Par zs (addrQ zs) addrL (fun z => True ∧ True) (fun z => (0 ≤ z.1 ∧ z.1 ≤ 9223372036854775807) ∧ (0 ≤ z.2 ∧ z.2 ≤ 9223372036854775807)) := hnum.pair hnum
  have hP := (par_up (m := 2147483647) hby (by omega)).pair ((par_addr hby).pair ((par_addr hby).pair ((par_num hby).pair ((par_num hby).pair ((par_up (m := 2147483647) hby (by omega)).pair ((par_up (m := 2147483647) hby (by omega)).pair ((par_str hby hb).pair (((par_rec hby hb).list hby hb).pair (((par_num hby).list hby hb).pair (((par_up (m := 2147483647) hby (by omega)).list hby hb).pair (((par_hsh hby).list hby hb).pair ((par_up (m := 2147483647) hby (by omega)).list hby hb))))))))))))
  have hQ := hnum.pair (haddr.pair (haddr.pair (hnum.pair (hnum.pair (hnum.pair (hnum.pair ((par_strQ hby hb).pair (((par_recQ hby hb).clist recL_pos hby hb).pair ((hnum.clist (fun x => (putL_len x).1) hby hb).pair ((hnum.clist (fun x => (putL_len x).1) hby hb).pair (((par_hsh hby).clist hshL_pos hby hb).pair (hnum.clist (fun x => (putL_len x).1) hby hb))))))))))))
  refine (whole_eq hP hQ ?_ ?_ ?_ ?_).symm
  · rintro ⟨kind, fr, to_, id, n, for_, code, key, recs, vec, path, hashes, route⟩ ⟨h1, h2, h3, h4, h5, h6, h7, h8, h9, h10, h11, h12, h13⟩
    exact ⟨trivial, trivial, trivial, trivial, trivial, trivial, trivial, trivial, h9, fun _ _ => trivial, fun _ _ => trivial, fun _ _ => trivial, fun _ _ => trivial⟩
  · rintro ⟨kind, fr, to_, id, n, for_, code, key, recs, vec, path, hashes, route⟩ ⟨h1, h2, h3, h4, h5, h6, h7, h8, h9, h10, h11, h12, h13⟩
    exact ⟨trivial, ⟨trivial, trivial⟩, ⟨trivial, trivial⟩, trivial, trivial, trivial, trivial, trivial, h9, fun _ _ => trivial, fun _ _ => trivial, fun _ _ => trivial, fun _ _ => trivial⟩
  · rintro ⟨kind, ⟨f1, f2⟩, ⟨t1, t2⟩, id, n, for_, code, key, recs, vec, path, hashes, route⟩ ⟨h1, h2, h3, h4, h5, h6, h7, h8, h9, h10, h11, h12, h13⟩ ⟨g1, g2, g3, g4, g5, g6, g7, g8, g9, g10, g11, g12, g13⟩
    unfold okA at h2 h3
    simp only at h1 h2 h3 h6 h7
    exact ⟨by simp only; omega, by simp only; omega, by simp only; omega, g4, g5, by simp only; omega, by simp only; omega, trivial, ⟨g9.1, fun x hx => by have := (h9 x hx).2.2.1; omega⟩, g10, ⟨g11.1, fun x hx => by have := g11.2 x hx; omega⟩, g12, ⟨g13.1, fun x hx => by have := g13.2 x hx; omega⟩⟩
  · rintro ⟨kind, ⟨f1, f2⟩, ⟨t1, t2⟩, id, n, for_, code, key, recs, vec, path, hashes, route⟩ ⟨h1, h2, h3, h4, h5, h6, h7, h8, h9, h10, h11, h12, h13⟩ ⟨g1, g2, g3, g4, g5, g6, g7, g8, g9, g10, g11, g12, g13⟩
    unfold okA at h2 h3
    simp only at h1 h2 h3 h6 h7
    exact ⟨by simp only; omega, by simp only; omega, by simp only; omega, g4, g5, by simp only; omega, by simp only; omega, h8, ⟨g9.1, fun x hx => (h9 x hx).2.1⟩, g10, ⟨g11.1, fun x hx => by have := h11.2 x hx; omega⟩, g12, ⟨g13.1, fun x hx => by have := h13.2 x hx; omega⟩⟩
end Code
end Go.Proofs.YtegiigeelcnemaaGreat
