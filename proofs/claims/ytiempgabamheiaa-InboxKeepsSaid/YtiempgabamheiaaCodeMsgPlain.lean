/-
  Plain words of layer 6: messages, as they are taken and written.
-/
import Derived.Test.YtiempgabamheiaaGPut
namespace Go.Proofs.Ytiempgabamheiaa
namespace Code
open Num Span Vers

/-- One thing behind another. -/
def pairP {α β : Type} (P : Nat → Option (α × Nat)) (Q : Nat → Option (β × Nat)) (p : Nat) : Option ((α × β) × Nat) :=
  match P p with
  | none => none
  | some (x, q) =>
    match Q q with
    | none => none
    | some (y, r) => some ((x, y), r)
theorem pairP_none {α β : Type} {P : Nat → Option (α × Nat)} {Q : Nat → Option (β × Nat)} {p : Nat} (h : P p = none) : pairP P Q p = none := by unfold pairP; rw [h]
theorem pairP_none2 {α β : Type} {P : Nat → Option (α × Nat)} {Q : Nat → Option (β × Nat)} {p q : Nat} {x : α} (h : P p = some (x, q)) (h2 : Q q = none) : pairP P Q p = none := by unfold pairP; simp only [h, h2]
theorem pairP_some {α β : Type} {P : Nat → Option (α × Nat)} {Q : Nat → Option (β × Nat)} {p q r : Nat} {x : α} {y : β} (h : P p = some (x, q)) (h2 : Q q = some (y, r)) : pairP P Q p = some ((x, y), r) := by unfold pairP; simp only [h, h2]
theorem pairP_inv {α β : Type} {P : Nat → Option (α × Nat)} {Q : Nat → Option (β × Nat)} {p r : Nat} {x : α} {y : β} (h : pairP P Q p = some ((x, y), r)) : ∃ q, P p = some (x, q) ∧ Q q = some (y, r) := by
  unfold pairP at h
  split at h
  · cases h
  · rename_i x' q hx
    split at h
    · cases h
    · rename_i y' r' hy
      simp only [Option.some.injEq, Prod.mk.injEq] at h
      obtain ⟨⟨rfl, rfl⟩, rfl⟩ := h
      exact ⟨q, hx, hy⟩
/-- What a parser is for: it takes what was written; and what it takes was written, if it is right. -/
structure Par {α : Type} (zs : List Int) (P : Nat → Option (α × Nat)) (enc : α → List Int) (ok : α → Prop) (gets : α → Prop) : Prop where
  put : ∀ x p, gets x → ok x → Std zs p (enc x) → P p = some (x, p + (enc x).length)
  goes : ∀ x p q, p ≤ zs.length → P p = some (x, q) → p < q ∧ q ≤ zs.length
  got : ∀ x p q, p ≤ zs.length → P p = some (x, q) → gets x
  back : ∀ x p q, p ≤ zs.length → P p = some (x, q) → ok x → Std zs p (enc x) ∧ q = p + (enc x).length
theorem Par.pair {α β : Type} {zs : List Int} {P : Nat → Option (α × Nat)} {Q : Nat → Option (β × Nat)} {e1 : α → List Int} {e2 : β → List Int} {ok1 g1 : α → Prop} {ok2 g2 : β → Prop}
    (h1 : Par zs P e1 ok1 g1) (h2 : Par zs Q e2 ok2 g2) : Par zs (pairP P Q) (fun z => e1 z.1 ++ e2 z.2) (fun z => ok1 z.1 ∧ ok2 z.2) (fun z => g1 z.1 ∧ g2 z.2) where
  put := fun z p hg hk hs => by
    obtain ⟨s1, s2⟩ := std_append.1 hs
    rw [pairP_some (h1.put z.1 p hg.1 hk.1 s1) (h2.put z.2 _ hg.2 hk.2 s2)]
    rw [List.length_append, Nat.add_assoc]
  goes := fun z p r hp h => by
    obtain ⟨q, a, b⟩ := pairP_inv h
    have := h1.goes _ _ _ hp a
    have := h2.goes _ _ _ (by omega) b
    omega
  got := fun z p r hp h => by
    obtain ⟨q, a, b⟩ := pairP_inv h
    have := h1.goes _ _ _ hp a
    exact ⟨h1.got _ _ _ hp a, h2.got _ _ _ (by omega) b⟩
  back := fun z p r hp h hk => by
    obtain ⟨q, a, b⟩ := pairP_inv h
    have := h1.goes _ _ _ hp a
    obtain ⟨a1, a2⟩ := h1.back _ _ _ hp a hk.1
    obtain ⟨b1, b2⟩ := h2.back _ _ _ (by omega) b hk.2
    refine ⟨std_append.2 ⟨a1, by rw [← a2]; exact b1⟩, ?_⟩
    rw [List.length_append]
    omega

/-! ### The parts -/
theorem listP_all {α : Type} {P : Nat → Option (α × Nat)} {n : Nat} {gets : α → Prop} (hP : ∀ x p q, p ≤ n → P p = some (x, q) → p < q ∧ q ≤ n) (hG : ∀ x p q, p ≤ n → P p = some (x, q) → gets x) : ∀ (k p q : Nat) (l : List α), p ≤ n → listP P k p = some (l, q) → ∀ x ∈ l, gets x
  | 0, p, q, l, hp, h => by
    simp only [listP, Option.some.injEq, Prod.mk.injEq] at h
    obtain ⟨rfl, rfl⟩ := h
    intro x hx
    cases hx
  | k + 1, p, q, l, hp, h => by
    rw [listP] at h
    split at h
    · cases h
    · rename_i x r hx
      obtain ⟨y, hy, he⟩ := Option.map_eq_some_iff.1 h
      simp only [Prod.mk.injEq] at he
      obtain ⟨rfl, rfl⟩ := he
      have h1 := hP x p r hp hx
      intro z hz
      rcases List.mem_cons.1 hz with rfl | hz
      · exact hG _ _ _ hp hx
      · exact listP_all hP hG k r y.2 y.1 (by omega) hy z hz
section
variable {zs : List Int}
theorem Par.list {α : Type} {P : Nat → Option (α × Nat)} {enc : α → List Int} {ok gets : α → Prop} (h : Par zs P enc ok gets) (hby : ∀ z ∈ zs, 0 ≤ z ∧ z ≤ 255) (hb : zs.length ≤ 4294967296) :
    Par zs (seqP P zs) (seqL enc) (fun l => ∀ x ∈ l, ok x) (fun l => l.length ≤ 9223372036854775807 ∧ ∀ x ∈ l, gets x) where
  put := fun l p hg hk hs => seqP_put (ok := fun x => gets x ∧ ok x) (fun x p hx hs => h.put x p hx.1 hx.2 hs) hg.1 (fun x hx => ⟨hg.2 x hx, hk x hx⟩) hs
  goes := fun l p q hp hx => by
    have := seqP_len hby (fun x p q hp h' => h.goes x p q hp h') hp hx
    omega
  got := fun l p q hp hx => by
    have h1 := seqP_len hby (fun x p q hp h' => h.goes x p q hp h') hp hx
    refine ⟨by omega, ?_⟩
    unfold seqP at hx
    split at hx
    · cases hx
    · rename_i n r hn
      obtain ⟨g1, g2, g3, g4⟩ := numP_ok hby hp hn
      have gl := std_le g1
      exact listP_all (fun x p q hp h' => h.goes x p q hp h') (fun x p q hp h' => h.got x p q hp h') _ _ _ _ (by omega) hx
  back := fun l p q hp hx hk => (seqP_ok hby (fun x p q hp h' => ⟨(h.goes x p q hp h').2, h.back x p q hp h'⟩) hp hx).2 hk
theorem par_num (hby : ∀ z ∈ zs, 0 ≤ z ∧ z ≤ 255) : Par zs (numP zs) putL (fun _ => True) (fun x => 0 ≤ x ∧ x ≤ 9223372036854775807) where
  put := fun x p hg _ hs => numP_put hg.1 hg.2 hs
  goes := fun x p q hp h => by
    obtain ⟨a1, a2, a3, a4⟩ := numP_ok hby hp h
    have := std_le a1
    have := putL_len x
    omega
  got := fun x p q hp h => by
    obtain ⟨a1, a2, a3, a4⟩ := numP_ok hby hp h
    exact ⟨a3, a4⟩
  back := fun x p q hp h _ => by
    obtain ⟨a1, a2, a3, a4⟩ := numP_ok hby hp h
    exact ⟨a1, a2⟩
theorem par_up (hby : ∀ z ∈ zs, 0 ≤ z ∧ z ≤ 255) {m : Int} (hm : m ≤ 9223372036854775807) : Par zs (upP m zs) putL (fun _ => True) (fun x => 0 ≤ x ∧ x ≤ m) where
  put := fun x p hg _ hs => upP_put hg.1 hg.2 (by omega) hs
  goes := fun x p q hp h => by
    obtain ⟨a1, a2, a3, a4, a5⟩ := upP_ok hby hp h
    have := std_le a1
    have := putL_len x
    omega
  got := fun x p q hp h => by
    obtain ⟨a1, a2, a3, a4, a5⟩ := upP_ok hby hp h
    exact ⟨a3, a4⟩
  back := fun x p q hp h _ => by
    obtain ⟨a1, a2, a3, a4, a5⟩ := upP_ok hby hp h
    exact ⟨a1, a2⟩
theorem par_addr (hby : ∀ z ∈ zs, 0 ≤ z ∧ z ≤ 255) : Par zs (addrP zs) addrL (fun _ => True) (fun a => (0 ≤ a.1 ∧ a.1 ≤ 2147483647) ∧ (0 ≤ a.2 ∧ a.2 ≤ 2147483647)) where
  put := fun x p hg _ hs => addrP_put hg.1 hg.2 hs
  goes := fun x p q hp h => by
    obtain ⟨a1, a2, a3, a4, a5⟩ := addrP_ok hby hp h
    exact ⟨a3, a4⟩
  got := fun x p q hp h => by
    obtain ⟨a1, a2, a3, a4, a5⟩ := addrP_ok hby hp h
    exact a5
  back := fun x p q hp h _ => by
    obtain ⟨a1, a2, a3, a4, a5⟩ := addrP_ok hby hp h
    exact ⟨a1, a2⟩
theorem par_hsh (hby : ∀ z ∈ zs, 0 ≤ z ∧ z ≤ 255) : Par zs (hshP zs) hshL (fun _ => True) (fun h => 0 ≤ h ∧ h < 18446744073709551616) where
  put := fun x p hg _ hs => hshP_put x p hg hs
  goes := fun x p q hp h => (hshP_ok hby x p q hp h).1
  got := fun x p q hp h => (hshP_ok hby x p q hp h).2.1
  back := fun x p q hp h _ => (hshP_ok hby x p q hp h).2.2
/-- A text, as it stands in memory. -/
def strP (m : Int) (zs : List Int) (p : Nat) : Option (ByteArray × Nat) :=
  match textP m zs p with
  | none => none
  | some (x, q) => some (strOfNums x, q)
def strL (x : ByteArray) : List Int := txtL (strNums x)
theorem strP_inv {m : Int} {p q : Nat} {x : ByteArray} (h : strP m zs p = some (x, q)) : ∃ y, textP m zs p = some (y, q) ∧ x = strOfNums y := by
  unfold strP at h
  split at h
  · cases h
  · rename_i y r hy
    simp only [Option.some.injEq, Prod.mk.injEq] at h
    obtain ⟨rfl, rfl⟩ := h
    exact ⟨y, hy, rfl⟩
theorem par_str (hby : ∀ z ∈ zs, 0 ≤ z ∧ z ≤ 255) (hb : zs.length ≤ 4294967296) : Par zs (strP 32 zs) strL (fun _ => True) (fun x => x.size ≤ 32) where
  put := fun x p hg _ hs => by
    unfold strP
    rw [textP_put (by rw [strNums_length]; omega) (by omega) hs]
    simp only
    rw [strOf_nums]
    rfl
  goes := fun x p q hp h => by
    obtain ⟨y, hy, rfl⟩ := strP_inv h
    obtain ⟨a1, a2, a3, a4⟩ := textP_ok hby hp hy
    have := std_le a1
    have := txtL_pos y
    omega
  got := fun x p q hp h => by
    obtain ⟨y, hy, rfl⟩ := strP_inv h
    obtain ⟨a1, a2, a3, a4⟩ := textP_ok hby hp hy
    rw [← strNums_length, strNums_of y a4]
    omega
  back := fun x p q hp h _ => by
    obtain ⟨y, hy, rfl⟩ := strP_inv h
    obtain ⟨a1, a2, a3, a4⟩ := textP_ok hby hp hy
    unfold strL
    rw [strNums_of y a4]
    exact ⟨a1, a2⟩
theorem par_rec (hby : ∀ z ∈ zs, 0 ≤ z ∧ z ≤ 255) (hb : zs.length ≤ 4294967296) : Par zs (recP zs) recL okR (fun r => r.1.size ≤ 32) where
  put := fun x p _ hk hs => recP_put (by omega) x p hk hs
  goes := fun x p q hp h => (recP_ok hby x p q hp h).1
  got := fun x p q hp h => (recP_ok hby x p q hp h).2.1.1
  back := fun x p q hp h => (recP_ok hby x p q hp h).2.2
end

/-! ### Messages -/
/-- Kind, from, to, id, n, for, code, key, records, vector, path, hashes, route. -/
abbrev Ms := Int × (Int × Int) × (Int × Int) × Int × Int × Int × Int × ByteArray × List Rc × List Int × List Int × List Int × List Int
def pairL {α β : Type} (f : α → List Int) (g : β → List Int) (z : α × β) : List Int := f z.1 ++ g z.2
def msgP (zs : List Int) : Nat → Option (Ms × Nat) := pairP (upP 2147483647 zs) (pairP (addrP zs) (pairP (addrP zs) (pairP (numP zs) (pairP (numP zs) (pairP (upP 2147483647 zs) (pairP (upP 2147483647 zs) (pairP (strP 32 zs) (pairP (seqP (recP zs) zs) (pairP (seqP (numP zs) zs) (pairP (seqP (upP 2147483647 zs) zs) (pairP (seqP (hshP zs) zs) (seqP (upP 2147483647 zs) zs))))))))))))
def msgL : Ms → List Int := pairL (putL) (pairL (addrL) (pairL (addrL) (pairL (putL) (pairL (putL) (pairL (putL) (pairL (putL) (pairL (strL) (pairL (seqL recL) (pairL (seqL putL) (pairL (seqL putL) (pairL (seqL hshL) (seqL putL))))))))))))
def okA (a : Int × Int) : Prop := (1 ≤ a.1 ∧ a.1 ≤ 16) ∧ (0 ≤ a.2 ∧ a.2 ≤ 8)
/-- A right message. -/
def okM : Ms → Prop
  | (kind, fr, to_, id, n, for_, code, key, recs, vec, path, hashes, route) =>
    (1 ≤ kind ∧ kind ≤ 17) ∧ okA fr ∧ okA to_ ∧ 0 ≤ id ∧ 0 ≤ n ∧ (0 ≤ for_ ∧ for_ ≤ 8) ∧ (0 ≤ code ∧ code ≤ 999) ∧ key.size ≤ 32 ∧ (∀ x ∈ recs, okR x) ∧
    (vec.length ≤ 16 ∧ ∀ x ∈ vec, 0 ≤ x ∧ x ≤ 4611686018427387904) ∧ (path.length ≤ 2 ∧ ∀ x ∈ path, 0 ≤ x ∧ x < 16) ∧ hashes.length ≤ 16 ∧ (route.length ≤ 16 ∧ ∀ x ∈ route, 1 ≤ x ∧ x ≤ 16)
/-- What a message in memory holds. -/
def tyM : Ms → Prop
  | (_, _, _, id, n, _, _, _, recs, _, _, hashes, _) => id ≤ 9223372036854775807 ∧ n ≤ 9223372036854775807 ∧ recs.length ≤ 140737488355328 ∧ ∀ h ∈ hashes, 0 ≤ h ∧ h < 18446744073709551616
theorem par_msg {zs : List Int} (hby : ∀ z ∈ zs, 0 ≤ z ∧ z ≤ 255) (hb : zs.length ≤ 4294967296) : ∃ ok gets, Par zs (msgP zs) msgL ok gets ∧ (∀ m, okM m → ok m) ∧ (∀ m, okM m → tyM m → gets m) ∧ ∀ m, gets m → m.2.2.2.2.2.2.2.2.1.length ≤ 140737488355328 → tyM m := by
  refine ⟨_, _, (par_up hby (by omega)).pair ((par_addr hby).pair ((par_addr hby).pair ((par_num hby).pair ((par_num hby).pair ((par_up hby (by omega)).pair ((par_up hby (by omega)).pair ((par_str hby hb).pair (((par_rec hby hb).list hby hb).pair (((par_num hby).list hby hb).pair (((par_up hby (by omega)).list hby hb).pair (((par_hsh hby).list hby hb).pair ((par_up hby (by omega)).list hby hb)))))))))))), ?_, ?_, ?_⟩
  · rintro ⟨kind, fr, to_, id, n, for_, code, key, recs, vec, path, hashes, route⟩ ⟨h1, h2, h3, h4, h5, h6, h7, h8, h9, h10, h11, h12, h13⟩
    exact ⟨trivial, trivial, trivial, trivial, trivial, trivial, trivial, trivial, h9, fun _ _ => trivial, fun _ _ => trivial, fun _ _ => trivial, fun _ _ => trivial⟩
  · rintro ⟨kind, fr, to_, id, n, for_, code, key, recs, vec, path, hashes, route⟩ ⟨h1, h2, h3, h4, h5, h6, h7, h8, h9, h10, h11, h12, h13⟩ ⟨t1, t2, t3, t4⟩
    unfold okA at h2 h3
    refine ⟨by omega, by simp only; omega, by simp only; omega, by simp only; omega, by simp only; omega, by simp only; omega, by simp only; omega, h8, ⟨by simp only; omega, fun x hx => (h9 x hx).2.1⟩, ⟨by simp only; omega, fun x hx => ?_⟩, ⟨by simp only; omega, fun x hx => ?_⟩, ⟨by simp only; omega, t4⟩, ⟨by simp only; omega, fun x hx => ?_⟩⟩
    · have := h10.2 x hx
      omega
    · have := h11.2 x hx
      omega
    · have := h13.2 x hx
      omega
  · rintro ⟨kind, fr, to_, id, n, for_, code, key, recs, vec, path, hashes, route⟩ ⟨g1, g2, g3, g4, g5, g6, g7, g8, g9, g10, g11, g12, g13⟩ hl
    exact ⟨g4.2, g5.2, hl, g12.2⟩
end Code
end Go.Proofs.Ytiempgabamheiaa
