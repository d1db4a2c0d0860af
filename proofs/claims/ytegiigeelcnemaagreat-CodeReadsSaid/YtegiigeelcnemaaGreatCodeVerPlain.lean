/-
  Plain words of layer 6: versions, records, addresses, hashes, as they are taken and written.
-/
import Derived.Test.YtegiigeelcnemaaGreatGCodeB
import Derived.Test.YtegiigeelcnemaaGreatGVersA
namespace Go.Proofs.YtegiigeelcnemaaGreat
namespace Code
open Num Span Vers

/-! ### Versions -/
def tailL (v : Vr) : List Int := if v.gone = true then putL 1 else putL 0 ++ txtL (strNums v.val)
def verL (v : Vr) : List Int := putL v.s ++ putL v.n ++ setL v.past ++ tailL v
def tailP (zs : List Int) (p : Nat) : Option ((Bool × ByteArray) × Nat) :=
  match upP 1 zs p with
  | none => none
  | some (k, q) =>
    if k = 1 then some ((true, ⟨#[]⟩), q)
    else match textP 256 zs q with
      | none => none
      | some (x, r) => some ((false, strOfNums x), r)
def verP (zs : List Int) (p : Nat) : Option (Vr × Nat) :=
  match upP 2147483647 zs p with
  | none => none
  | some (s, q) =>
    match numP zs q with
    | none => none
    | some (n, r) =>
      match setP zs r with
      | none => none
      | some (l, u) =>
        match tailP zs u with
        | none => none
        | some ((g, x), t) => some (⟨s, n, l, g, x⟩, t)
theorem tailP_put {zs : List Int} {v : Vr} {p : Nat} (hv : okV v) (hb : zs.length ≤ 9223372036854775807) (h : Std zs p (tailL v)) : tailP zs p = some ((v.gone, v.val), p + (tailL v).length) := by
  obtain ⟨_, _, _, h5, h6⟩ := hv
  unfold tailP
  by_cases hg : v.gone = true
  · have hL : tailL v = putL 1 := if_pos hg
    rw [hL] at h ⊢
    rw [upP_put (by omega) (by omega) (by omega) h]
    simp only [if_true]
    rw [hg, h6 hg]
  · have hL : tailL v = putL 0 ++ txtL (strNums v.val) := if_neg hg
    rw [hL] at h ⊢
    obtain ⟨h1, h2⟩ := std_append.1 h
    rw [upP_put (by omega) (by omega) (by omega) h1]
    simp only
    rw [if_neg (by decide), textP_put (by rw [strNums_length]; omega) hb h2]
    simp only
    rw [strOf_nums, List.length_append, Nat.add_assoc]
    have hg' : v.gone = false := by simpa using hg
    rw [hg']
theorem tailP_ok {zs : List Int} (hby : ∀ z ∈ zs, 0 ≤ z ∧ z ≤ 255) {p q : Nat} {g : Bool} {x : ByteArray} (hp : p ≤ zs.length) (h : tailP zs p = some ((g, x), q)) :
    p < q ∧ q ≤ zs.length ∧ x.size ≤ 256 ∧ ∀ v : Vr, v.gone = g → v.val = x → Std zs p (tailL v) ∧ q = p + (tailL v).length := by
  unfold tailP at h
  split at h
  · cases h
  · rename_i k r h1
    obtain ⟨a1, a2, a3, a4, a5⟩ := upP_ok hby hp h1
    have al := std_le a1
    have ap := putL_len k
    split at h
    · rename_i hk
      subst hk
      simp only [Option.some.injEq, Prod.mk.injEq] at h
      obtain ⟨⟨rfl, rfl⟩, rfl⟩ := h
      refine ⟨by omega, by omega, by simp [ByteArray.size], fun v hg hx => ?_⟩
      have hL : tailL v = putL 1 := if_pos hg
      rw [hL]
      exact ⟨a1, a2⟩
    · rename_i hk
      have hk0 : k = 0 := by omega
      subst hk0
      split at h
      · cases h
      · rename_i y u h2
        obtain ⟨b1, b2, b3, b4⟩ := textP_ok hby (by omega) h2
        have bl := std_le b1
        simp only [Option.some.injEq, Prod.mk.injEq] at h
        obtain ⟨⟨rfl, rfl⟩, rfl⟩ := h
        have hy := strNums_of y b4
        have hsz : (strOfNums y).size = y.length := by rw [← strNums_length, hy]
        refine ⟨by omega, by omega, by rw [hsz]; omega, fun v hg hx => ?_⟩
        have hL : tailL v = putL 0 ++ txtL (strNums v.val) := if_neg (by rw [hg]; decide)
        rw [hL, hx, hy]
        refine ⟨std_append.2 ⟨a1, by rw [← a2]; exact b1⟩, ?_⟩
        rw [List.length_append]
        omega
theorem verP_put {zs : List Int} (hb : zs.length ≤ 9223372036854775807) (v : Vr) (p : Nat) (hv : okV v) (h : Std zs p (verL v)) : verP zs p = some (v, p + (verL v).length) := by
  obtain ⟨h123, h4⟩ := std_append.1 h
  obtain ⟨h12, h3⟩ := std_append.1 h123
  obtain ⟨h1, h2⟩ := std_append.1 h12
  have hd := hv.1
  unfold okD at hd
  have hR := hv.2.1
  have hRl := hR.1
  rw [List.length_append, ← Nat.add_assoc] at h3
  rw [List.length_append, List.length_append, ← Nat.add_assoc, ← Nat.add_assoc] at h4
  unfold verP
  rw [upP_put (by omega) (by omega) (by omega) h1]
  simp only
  rw [numP_put (by omega) (by omega) h2]
  simp only
  rw [setP_put (by omega) hR.2.1 h3]
  simp only
  rw [tailP_put hv hb h4]
  simp only
  unfold verL
  simp only [List.length_append]
  rw [show p + (putL v.s).length + (putL v.n).length + (setL v.past).length + (tailL v).length = p + ((putL v.s).length + (putL v.n).length + (setL v.past).length + (tailL v).length) by omega]
theorem verP_ok {zs : List Int} (hby : ∀ z ∈ zs, 0 ≤ z ∧ z ≤ 255) (v : Vr) (p q : Nat) (hp : p ≤ zs.length) (h : verP zs p = some (v, q)) :
    (p < q ∧ q ≤ zs.length) ∧ (v.past.length ≤ zs.length ∧ v.val.size ≤ 256 ∧ (v.gone = true → v.val = ⟨#[]⟩)) ∧ (okV v → Std zs p (verL v) ∧ q = p + (verL v).length) := by
  unfold verP at h
  split at h
  · cases h
  · rename_i s r h1
    obtain ⟨a1, a2, a3, a4, a5⟩ := upP_ok hby hp h1
    have al := std_le a1
    have ap := putL_len s
    split at h
    · cases h
    · rename_i n u h2
      obtain ⟨b1, b2, b3, b4⟩ := numP_ok hby (by omega) h2
      have bl := std_le b1
      split at h
      · cases h
      · rename_i l t h3
        have c0 := setP_len hby (by omega) h3
        obtain ⟨c1, c2⟩ := setP_ok hby (by omega) h3
        split at h
        · cases h
        · rename_i g x y h4
          obtain ⟨d1, d2, d3, d4⟩ := tailP_ok hby (by omega) h4
          simp only [Option.some.injEq, Prod.mk.injEq] at h
          obtain ⟨rfl, rfl⟩ := h
          refine ⟨⟨by omega, d2⟩, ⟨by simp only; omega, d3, fun hg => ?_⟩, fun hv => ?_⟩
          · simp only at hg ⊢
            subst hg
            unfold tailP at h4
            split at h4
            · cases h4
            · split at h4
              · simp only [Option.some.injEq, Prod.mk.injEq] at h4
                exact h4.1.2.symm
              · split at h4
                · cases h4
                · simp only [Option.some.injEq, Prod.mk.injEq] at h4
                  exact absurd h4.1.1 (by decide)
          · obtain ⟨e1, e2⟩ := c2 hv.2.1.2.1
            obtain ⟨f1, f2⟩ := d4 ⟨s, n, l, g, x⟩ rfl rfl
            unfold verL
            refine ⟨std_append.2 ⟨std_append.2 ⟨std_append.2 ⟨a1, by rw [← a2]; exact b1⟩, ?_⟩, ?_⟩, ?_⟩
            · rw [List.length_append, ← Nat.add_assoc, ← a2, ← b2]
              exact e1
            · rw [List.length_append, List.length_append, ← Nat.add_assoc, ← Nat.add_assoc, ← a2, ← b2, ← e2]
              exact f1
            · simp only [List.length_append]
              omega
theorem verL_pos (v : Vr) : 1 ≤ (verL v).length := by
  have := putL_len v.s
  unfold verL
  simp only [List.length_append]
  omega

/-! ### Records -/
abbrev Rc := ByteArray × List Vr
def okR (r : Rc) : Prop := 1 ≤ r.1.size ∧ r.1.size ≤ 32 ∧ RightV r.2
instance (r : Rc) : Decidable (okR r) := by unfold okR; infer_instance
def recL (r : Rc) : List Int := txtL (strNums r.1) ++ seqL verL r.2
def recP (zs : List Int) (p : Nat) : Option (Rc × Nat) :=
  match textP 32 zs p with
  | none => none
  | some (x, q) =>
    match seqP (verP zs) zs q with
    | none => none
    | some (l, r) => some ((strOfNums x, l), r)
theorem txtL_pos (l : List Int) : 1 ≤ (txtL l).length := by
  have := putL_len (l.length : Int)
  unfold txtL
  rw [List.length_append]
  omega
theorem recP_put {zs : List Int} (hb : zs.length ≤ 9223372036854775807) (r : Rc) (p : Nat) (hr : okR r) (h : Std zs p (recL r)) : recP zs p = some (r, p + (recL r).length) := by
  obtain ⟨h1, h2⟩ := std_append.1 h
  obtain ⟨r1, r2, r3⟩ := hr
  have rl := r3.1
  unfold recP
  rw [textP_put (by rw [strNums_length]; omega) hb h1]
  simp only
  rw [seqP_put (ok := okV) (fun x p => verP_put hb x p) (by omega) (fun x hx => r3.2.1.1 x hx) h2]
  simp only
  rw [strOf_nums]
  unfold recL
  rw [List.length_append, Nat.add_assoc]
theorem vers_len {zs : List Int} (hby : ∀ z ∈ zs, 0 ≤ z ∧ z ≤ 255) {p q : Nat} {l : List Vr} (hp : p ≤ zs.length) (h : seqP (verP zs) zs p = some (l, q)) : p + l.length < q ∧ q ≤ zs.length := seqP_len hby (fun x p q hp h => (verP_ok hby x p q hp h).1) hp h
theorem recP_ok {zs : List Int} (hby : ∀ z ∈ zs, 0 ≤ z ∧ z ≤ 255) (r : Rc) (p q : Nat) (hp : p ≤ zs.length) (h : recP zs p = some (r, q)) :
    (p < q ∧ q ≤ zs.length) ∧ (r.1.size ≤ 32 ∧ r.2.length ≤ zs.length) ∧ (okR r → Std zs p (recL r) ∧ q = p + (recL r).length) := by
  unfold recP at h
  split at h
  · cases h
  · rename_i x u h1
    obtain ⟨a1, a2, a3, a4⟩ := textP_ok hby hp h1
    have al := std_le a1
    have ap := txtL_pos x
    split at h
    · cases h
    · rename_i l t h2
      have b0 := vers_len hby (by omega) h2
      obtain ⟨b1, b2⟩ := seqP_ok (enc := verL) (ok := okV) hby (fun x p q hp h => ⟨(verP_ok hby x p q hp h).1.2, (verP_ok hby x p q hp h).2.2⟩) (by omega) h2
      simp only [Option.some.injEq, Prod.mk.injEq] at h
      obtain ⟨rfl, rfl⟩ := h
      have hy := strNums_of x a4
      have hsz : (strOfNums x).size = x.length := by rw [← strNums_length, hy]
      refine ⟨⟨by omega, b1⟩, ⟨by rw [hsz]; omega, by simp only; omega⟩, fun hr => ?_⟩
      obtain ⟨c1, c2⟩ := b2 hr.2.2.2.1.1
      unfold recL
      simp only [hy]
      refine ⟨std_append.2 ⟨a1, by rw [← a2]; exact c1⟩, ?_⟩
      rw [List.length_append]
      omega
theorem recL_pos (r : Rc) : 1 ≤ (recL r).length := by
  have := txtL_pos (strNums r.1)
  unfold recL
  rw [List.length_append]
  omega

/-! ### Addresses and hashes -/
def addrL (a : Int × Int) : List Int := putL a.1 ++ putL a.2
def addrP (zs : List Int) (p : Nat) : Option ((Int × Int) × Nat) :=
  match upP 2147483647 zs p with
  | none => none
  | some (s, q) =>
    match upP 2147483647 zs q with
    | none => none
    | some (n, r) => some ((s, n), r)
def hshL (h : Int) : List Int := putL (h / 4294967296) ++ putL (h % 4294967296)
def hshP (zs : List Int) (p : Nat) : Option (Int × Nat) :=
  match upP 4294967295 zs p with
  | none => none
  | some (u, q) =>
    match upP 4294967295 zs q with
    | none => none
    | some (l, r) => some (u * 4294967296 + l, r)
theorem addrP_put {zs : List Int} {a : Int × Int} {p : Nat} (h1 : 0 ≤ a.1 ∧ a.1 ≤ 2147483647) (h2 : 0 ≤ a.2 ∧ a.2 ≤ 2147483647) (h : Std zs p (addrL a)) : addrP zs p = some (a, p + (addrL a).length) := by
  obtain ⟨g1, g2⟩ := std_append.1 h
  unfold addrP
  rw [upP_put h1.1 h1.2 (by omega) g1]
  simp only
  rw [upP_put h2.1 h2.2 (by omega) g2]
  simp only
  unfold addrL
  rw [List.length_append, Nat.add_assoc]
theorem addrP_ok {zs : List Int} (hby : ∀ z ∈ zs, 0 ≤ z ∧ z ≤ 255) {a : Int × Int} {p q : Nat} (hp : p ≤ zs.length) (h : addrP zs p = some (a, q)) : Std zs p (addrL a) ∧ q = p + (addrL a).length ∧ p < q ∧ q ≤ zs.length ∧ (0 ≤ a.1 ∧ a.1 ≤ 2147483647) ∧ (0 ≤ a.2 ∧ a.2 ≤ 2147483647) := by
  unfold addrP at h
  split at h
  · cases h
  · rename_i s r h1
    obtain ⟨a1, a2, a3, a4, a5⟩ := upP_ok hby hp h1
    have al := std_le a1
    have ap := putL_len s
    split at h
    · cases h
    · rename_i n t h2
      obtain ⟨b1, b2, b3, b4, b5⟩ := upP_ok hby (by omega) h2
      have bl := std_le b1
      simp only [Option.some.injEq, Prod.mk.injEq] at h
      obtain ⟨rfl, rfl⟩ := h
      unfold addrL
      refine ⟨std_append.2 ⟨a1, by rw [← a2]; exact b1⟩, by simp only [List.length_append]; omega, by omega, by omega, ⟨a3, a4⟩, ⟨b3, b4⟩⟩
theorem hshP_put {zs : List Int} (h : Int) (p : Nat) (hh : 0 ≤ h ∧ h < 18446744073709551616) (hs : Std zs p (hshL h)) : hshP zs p = some (h, p + (hshL h).length) := by
  obtain ⟨g1, g2⟩ := std_append.1 hs
  unfold hshP
  rw [upP_put (by omega) (by omega) (by omega) g1]
  simp only
  rw [upP_put (by omega) (by omega) (by omega) g2]
  simp only
  unfold hshL
  rw [List.length_append, Nat.add_assoc, show h / 4294967296 * 4294967296 + h % 4294967296 = h by omega]
theorem hshP_ok {zs : List Int} (hby : ∀ z ∈ zs, 0 ≤ z ∧ z ≤ 255) (h : Int) (p q : Nat) (hp : p ≤ zs.length) (hP : hshP zs p = some (h, q)) : (p < q ∧ q ≤ zs.length) ∧ (0 ≤ h ∧ h < 18446744073709551616) ∧ Std zs p (hshL h) ∧ q = p + (hshL h).length := by
  unfold hshP at hP
  split at hP
  · cases hP
  · rename_i u r h1
    obtain ⟨a1, a2, a3, a4, a5⟩ := upP_ok hby hp h1
    have al := std_le a1
    have ap := putL_len u
    split at hP
    · cases hP
    · rename_i l t h2
      obtain ⟨b1, b2, b3, b4, b5⟩ := upP_ok hby (by omega) h2
      have bl := std_le b1
      simp only [Option.some.injEq, Prod.mk.injEq] at hP
      obtain ⟨rfl, rfl⟩ := hP
      have e1 : (u * 4294967296 + l) / 4294967296 = u := by omega
      have e2 : (u * 4294967296 + l) % 4294967296 = l := by omega
      unfold hshL
      rw [e1, e2]
      exact ⟨⟨by omega, by omega⟩, by omega, std_append.2 ⟨a1, by rw [← a2]; exact b1⟩, by rw [List.length_append]; omega⟩
end Code
end Go.Proofs.YtegiigeelcnemaaGreat
