/-
  Plain words of layer 13: marks, tokens, and what a token is opened as.
-/
import Derived.Test.YtjifklojbbocfaaCodeRefPlain
import Derived.Test.YtjifklojbbocfaaCodeWrSet
import Derived.Test.YtjifklojbbocfaaPutText
import Derived.Test.YtjifklojbbocfaaRingHash
namespace Go.Proofs.Ytjifklojbbocfaa
namespace Seal
open Num Span Ring Go.Proofs.Ytjifklojbbocfaa.Code

/-- May secret and group be? -/
def okKey (s : ByteArray) (g : Int) : Prop := 1 ≤ s.size ∧ s.size ≤ 64 ∧ 0 ≤ g
instance (s : ByteArray) (g : Int) : Decidable (okKey s g) := by unfold okKey; infer_instance

/-- A mark's eight bytes. -/
def be8 (h : Int) : List Int := [h / 72057594037927936, h / 281474976710656 % 256, h / 1099511627776 % 256, h / 4294967296 % 256, h / 16777216 % 256, h / 65536 % 256, h / 256 % 256, h % 256]
def innerL (s : ByteArray) (zs : List Int) : Int := hashL (textL s ++ zs)
def outerL (s : ByteArray) (zs : List Int) : Int := hashL (textL s ++ putL (innerL s zs / 4294967296) ++ putL (innerL s zs % 4294967296) ++ textL s)
def markL (s : ByteArray) (zs : List Int) : List Int := be8 (outerL s zs)
theorem be8_len (h : Int) : (be8 h).length = 8 := rfl
theorem be8_bytes {h : Int} (hu : U h) : ∀ z ∈ be8 h, 0 ≤ z ∧ z ≤ 255 := by
  obtain ⟨h0, h1⟩ := hu
  intro z hz
  simp only [be8, List.mem_cons, List.not_mem_nil, or_false] at hz
  rcases hz with rfl | rfl | rfl | rfl | rfl | rfl | rfl | rfl <;> omega
theorem markL_len (s : ByteArray) (zs : List Int) : (markL s zs).length = 8 := rfl
theorem markL_bytes (s : ByteArray) (zs : List Int) : ∀ z ∈ markL s zs, 0 ≤ z ∧ z ≤ 255 := be8_bytes (hash_range _)
theorem textL_bytes (s : ByteArray) : ∀ z ∈ textL s, 0 ≤ z ∧ z ≤ 255 := by
  intro z hz
  rcases List.mem_append.1 hz with hz | hz
  · exact putL_bytes _ (by omega) z hz
  · exact strNums_bytes s z hz
theorem textL_len (s : ByteArray) : s.size + 1 ≤ (textL s).length ∧ (textL s).length ≤ s.size + 9 := by
  have h1 := putL_len (s.size : Int)
  have h2 := strNums_length s
  unfold textL
  rw [List.length_append]
  omega

/-- What is marked of a token. -/
def bodyL (g : Int) (l : List Sp) : List Int := putL 1 ++ putL g ++ setL l
theorem setL_len2 (l : List Sp) : 1 ≤ (setL l).length := by
  have h1 := putL_len (l.length : Int)
  unfold setL seqL
  rw [List.length_append]
  omega
theorem bodyL_len {g : Int} {l : List Sp} (h : l.length ≤ 1024) : 3 ≤ (bodyL g l).length ∧ (bodyL g l).length ≤ 27675 := by
  have h1 := putL_len 1
  have h2 := putL_len g
  have h3 := setL_len h
  have h4 := setL_len2 l
  unfold bodyL
  simp only [List.length_append]
  omega
theorem bodyL_bytes {g : Int} {l : List Sp} (hg : 0 ≤ g) (hR : Right l) : ∀ z ∈ bodyL g l, 0 ≤ z ∧ z ≤ 255 := by
  intro z hz
  rcases List.mem_append.1 hz with hz | hz
  · rcases List.mem_append.1 hz with hz | hz
    · exact putL_bytes _ (by omega) z hz
    · exact putL_bytes _ hg z hz
  · exact setL_fine hR.2.1 z hz

/-- The token of a set, or the error. -/
def sealF (s : ByteArray) (g : Int) (l : List Sp) : List Int × Int := if okKey s g ∧ Right l then (bodyL g l ++ markL s (bodyL g l), 0) else ([], 1)
theorem seal_ok {s : ByteArray} {g : Int} {l : List Sp} (h : okKey s g) (hR : Right l) : sealF s g l = (bodyL g l ++ markL s (bodyL g l), 0) := if_pos ⟨h, hR⟩
theorem seal_bad {s : ByteArray} {g : Int} {l : List Sp} (h : ¬ (okKey s g ∧ Right l)) : sealF s g l = ([], 1) := if_neg h
theorem seal_bytes (s : ByteArray) (g : Int) (l : List Sp) : ∀ z ∈ (sealF s g l).1, 0 ≤ z ∧ z ≤ 255 := by
  by_cases h : okKey s g ∧ Right l
  · rw [seal_ok h.1 h.2]
    intro z hz
    rcases List.mem_append.1 hz with hz | hz
    · exact bodyL_bytes h.1.2.2 h.2 z hz
    · exact markL_bytes _ _ z hz
  · rw [seal_bad h]
    simp
theorem seal_len (s : ByteArray) (g : Int) (l : List Sp) : (sealF s g l).1.length ≤ 27683 := by
  by_cases h : okKey s g ∧ Right l
  · rw [seal_ok h.1 h.2]
    have h1 := bodyL_len (g := g) h.2.1
    simp only [List.length_append, markL_len]
    omega
  · rw [seal_bad h]
    simp
theorem seal_zero {s : ByteArray} {g : Int} {l : List Sp} : (sealF s g l).2 = 0 ↔ okKey s g ∧ Right l := by
  by_cases h : okKey s g ∧ Right l
  · rw [seal_ok h.1 h.2]
    exact ⟨fun _ => h, fun _ => rfl⟩
  · rw [seal_bad h]
    exact ⟨fun e => absurd e (by decide), fun e => absurd e h⟩

/-- The group and the set of what is marked, if it has them. -/
def takeF (zs : List Int) : Option (Int × List Sp) :=
  match numP zs 0 with
  | none => none
  | some (one, p) =>
    if one = 1 then
      match numP zs p with
      | none => none
      | some (g, q) => if (setF (zs.drop q)).2 = 0 then some (g, (setF (zs.drop q)).1) else none
    else none
theorem drop_bytes {zs : List Int} (hby : ∀ z ∈ zs, 0 ≤ z ∧ z ≤ 255) (n : Nat) : ∀ z ∈ zs.drop n, 0 ≤ z ∧ z ≤ 255 := fun z hz => hby z (List.mem_of_mem_drop hz)
theorem take_bytes {zs : List Int} (hby : ∀ z ∈ zs, 0 ≤ z ∧ z ≤ 255) (n : Nat) : ∀ z ∈ zs.take n, 0 ≤ z ∧ z ≤ 255 := fun z hz => hby z (List.mem_of_mem_take hz)
theorem take_body {g : Int} {l : List Sp} (hg : 0 ≤ g ∧ g ≤ 9223372036854775807) (hR : Right l) : takeF (bodyL g l) = some (g, l) := by
  have h0 : Std (bodyL g l) 0 (bodyL g l) := (std_all.2 rfl).1
  obtain ⟨h12, h3⟩ := std_append.1 (show Std (bodyL g l) 0 (putL 1 ++ putL g ++ setL l) from h0)
  obtain ⟨h1, h2⟩ := std_append.1 h12
  unfold takeF
  rw [numP_put (by omega) (by omega) h1]
  simp only [if_true]
  rw [numP_put hg.1 hg.2 h2]
  simp only
  have e : (bodyL g l).drop (0 + (putL 1).length + (putL g).length) = setL l := by
    unfold bodyL
    rw [Nat.zero_add, ← List.length_append, List.drop_left]
  rw [e, setF_put hR]
  simp
theorem take_ok {zs : List Int} {g : Int} {l : List Sp} (hby : ∀ z ∈ zs, 0 ≤ z ∧ z ≤ 255) (h : takeF zs = some (g, l)) : Right l ∧ (0 ≤ g ∧ g ≤ 9223372036854775807) ∧ zs = bodyL g l := by
  unfold takeF at h
  split at h
  · cases h
  · rename_i one p h1
    obtain ⟨a1, a2, a3, a4⟩ := numP_ok hby (by omega) h1
    have al := std_le a1
    split at h
    · rename_i ho
      subst ho
      split at h
      · cases h
      · rename_i g' q h2
        obtain ⟨b1, b2, b3, b4⟩ := numP_ok hby (by omega) h2
        split at h
        · rename_i hs
          simp only [Option.some.injEq, Prod.mk.injEq] at h
          obtain ⟨rfl, rfl⟩ := h
          obtain ⟨hR, he⟩ := setF_right (drop_bytes hby q) (show setF (zs.drop q) = ((setF (zs.drop q)).1, 0) by rw [← hs])
          refine ⟨hR, ⟨b3, b4⟩, ?_⟩
          unfold bodyL
          obtain ⟨t, ht⟩ := a1.2
          obtain ⟨u, hu⟩ := b1.2
          rw [List.drop_zero] at ht
          rw [← he]
          have e1 : zs.drop p = t := by rw [← ht, a2, Nat.zero_add, List.drop_left]
          have e2 : zs.drop q = u := by rw [b2, ← List.drop_drop, ← hu, List.drop_left]
          rw [e2, List.append_assoc, hu, e1, ht]
        · cases h
    · cases h

/-- What a token is opened as. -/
def openF (s : ByteArray) (g : Int) (zs : List Int) : List Sp × Int :=
  if ¬ okKey s g then ([], 1)
  else if zs.length = 0 then ([], 0)
  else if zs.length < 8 then ([], 130)
  else match takeF (zs.take (zs.length - 8)) with
    | none => ([], 130)
    | some (its, l) =>
      if its ≠ g then ([], 131)
      else if zs.drop (zs.length - 8) ≠ markL s (zs.take (zs.length - 8)) then ([], 132)
      else (l, 0)
theorem open_key {s : ByteArray} {g : Int} {zs : List Int} (h : ¬ okKey s g) : openF s g zs = ([], 1) := if_pos h
theorem open_nil {s : ByteArray} {g : Int} {zs : List Int} (h : okKey s g) (h0 : zs.length = 0) : openF s g zs = ([], 0) := by unfold openF; rw [if_neg (fun k => k h), if_pos h0]
theorem open_few {s : ByteArray} {g : Int} {zs : List Int} (h : okKey s g) (h0 : zs.length ≠ 0) (h8 : zs.length < 8) : openF s g zs = ([], 130) := by unfold openF; rw [if_neg (fun k => k h), if_neg h0, if_pos h8]
theorem open_none {s : ByteArray} {g : Int} {zs : List Int} (h : okKey s g) (h8 : ¬ zs.length < 8) (ht : takeF (zs.take (zs.length - 8)) = none) : openF s g zs = ([], 130) := by
  unfold openF; rw [if_neg (fun k => k h), if_neg (by omega), if_neg h8, ht]
theorem open_some {s : ByteArray} {g its : Int} {l : List Sp} {zs : List Int} (h : okKey s g) (h8 : ¬ zs.length < 8) (ht : takeF (zs.take (zs.length - 8)) = some (its, l)) :
    openF s g zs = if its ≠ g then ([], 131) else if zs.drop (zs.length - 8) ≠ markL s (zs.take (zs.length - 8)) then ([], 132) else (l, 0) := by
  unfold openF; rw [if_neg (fun k => k h), if_neg (by omega), if_neg h8, ht]
theorem open_len {s : ByteArray} {g : Int} {zs : List Int} (hby : ∀ z ∈ zs, 0 ≤ z ∧ z ≤ 255) : Right (openF s g zs).1 ∨ (openF s g zs).1 = [] := by
  by_cases hk : okKey s g
  · by_cases h0 : zs.length = 0
    · rw [open_nil hk h0]; exact .inr rfl
    · by_cases h8 : zs.length < 8
      · rw [open_few hk h0 h8]; exact .inr rfl
      · rcases ht : takeF (zs.take (zs.length - 8)) with _ | ⟨its, l⟩
        · rw [open_none hk h8 ht]; exact .inr rfl
        · rw [open_some hk h8 ht]
          split
          · exact .inr rfl
          · split
            · exact .inr rfl
            · exact .inl (take_ok (take_bytes hby _) ht).1
  · rw [open_key hk]; exact .inr rfl
theorem open_small {s : ByteArray} {g : Int} {zs : List Int} (hby : ∀ z ∈ zs, 0 ≤ z ∧ z ≤ 255) : (openF s g zs).1.length ≤ 1024 := by
  rcases open_len (s := s) (g := g) hby with h | h
  · exact h.1
  · rw [h]; simp

/-- A token, opened by whom else. -/
theorem open_token {s s' : ByteArray} {g g' : Int} {l : List Sp} (hk : okKey s g) (hg : g ≤ 9223372036854775807) (hR : Right l) (hk' : okKey s' g') (m : List Int) (hm : m.length = 8) :
    openF s' g' (bodyL g l ++ m) = if g ≠ g' then ([], 131) else if m ≠ markL s' (bodyL g l) then ([], 132) else (l, 0) := by
  have hlen : (bodyL g l ++ m).length - 8 = (bodyL g l).length := by rw [List.length_append, hm]; omega
  have ht : (bodyL g l ++ m).take ((bodyL g l ++ m).length - 8) = bodyL g l := by rw [hlen, List.take_left]
  have hd : (bodyL g l ++ m).drop ((bodyL g l ++ m).length - 8) = m := by rw [hlen, List.drop_left]
  rw [open_some hk' (by rw [List.length_append, hm]; omega) (its := g) (l := l) (by rw [ht]; exact take_body ⟨hk.2.2, hg⟩ hR), hd, ht]
theorem open_back {s : ByteArray} {g : Int} {l : List Sp} (hk : okKey s g) (hg : g ≤ 9223372036854775807) (hR : Right l) : openF s g (sealF s g l).1 = (l, 0) := by
  rw [seal_ok hk hR, open_token hk hg hR hk _ (markL_len _ _), if_neg (by simp), if_neg (by simp)]
/-- What is opened is just the token of it. -/
theorem open_only {s : ByteArray} {g : Int} {zs : List Int} (hby : ∀ z ∈ zs, 0 ≤ z ∧ z ≤ 255) (hz : zs.length ≠ 0) (h : (openF s g zs).2 = 0) : sealF s g (openF s g zs).1 = (zs, 0) := by
  by_cases hk : okKey s g
  · by_cases h8 : zs.length < 8
    · rw [open_few hk hz h8] at h; cases h
    · rcases ht : takeF (zs.take (zs.length - 8)) with _ | ⟨its, l⟩
      · rw [open_none hk h8 ht] at h; cases h
      · obtain ⟨hR, hg, he⟩ := take_ok (take_bytes hby _) ht
        rw [open_some hk h8 ht] at h ⊢
        by_cases hi : its = g
        · subst hi
          rw [if_neg (by simp)] at h ⊢
          by_cases hm : zs.drop (zs.length - 8) = markL s (zs.take (zs.length - 8))
          · rw [if_neg (by simpa using hm)]
            rw [seal_ok hk hR, ← he, ← hm, List.take_append_drop]
          · rw [if_pos hm] at h; cases h
        · rw [if_pos hi] at h; cases h
  · rw [open_key hk] at h; cases h
/-- The first bytes of a token are none. -/
theorem open_cut {s : ByteArray} {g : Int} {zs : List Int} (hk : okKey s g) (k : Nat) (h1 : 1 ≤ k) (h8 : k ≤ 8) (hz : k ≤ zs.length) : openF s g (zs.take k) = ([], 130) := by
  have hl : (zs.take k).length = k := by rw [List.length_take]; omega
  by_cases h : k < 8
  · exact open_few hk (by omega) (by omega)
  · refine open_none hk (by omega) ?_
    rw [show (zs.take k).length - 8 = 0 by omega, List.take_zero]
    rfl
end Seal
end Go.Proofs.Ytjifklojbbocfaa
