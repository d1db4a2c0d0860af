/-
  What SessPlays reads of both: lengths, heads, sites, tokens.
-/
import Derived.Test.YtnmkhccgaedigaaSessBoth
namespace Go.Proofs.Ytnmkhccgaedigaa
namespace Sess
open Go.RowKit Blk Go.Maps
section
variable {X : Nat → Prop} {w V : World} {sb rb m : Nat} {N : Int} {L L' M : List Sn}
theorem openF_len {site num err : Int} (h : openF N L site = (L', num, err)) : L'.length ≤ L.length + 1 := by
  unfold openF at h
  split at h <;> (injection h with h; subst h; simp)
theorem beginF_len {k op site err : Int} {tok : List Int} (h : beginF L k op = (L', site, tok, err)) : L'.length = L.length := by
  unfold beginF at h
  repeat' split at h
  all_goals (injection h with h; subst h; simp)
theorem endF_len {op num : Int} {t : List Int} {ok : Bool} (h : endF L op t = (L', num, ok)) : L'.length = L.length := by
  unfold endF at h
  split at h <;> (injection h with h; subst h; simp)
theorem goF_len {k site err : Int} (h : goF N L k site = (L', err)) : L'.length = L.length := by
  unfold goF at h
  repeat' split at h
  all_goals (injection h with h; subst h; simp)
theorem lostF_len (L : List Sn) (site : Int) : (lostF L site).length = L.length := List.length_map ..
theorem siteF_zero (L : List Sn) : siteF L 0 = 0 := if_neg (by unfold inF; omega)
theorem tokF_past (L : List Sn) : tokF L ((L.length : Int) + 1) = [] := if_neg (by unfold inF; omega)
theorem getF_in {i : Nat} {x : Sn} (hx : L[i]? = some x) : getF L ((i : Int) + 1) = x := by
  have hl := (List.getElem?_eq_some_iff.1 hx).1
  have h := getF_at (L := L) (k := (i : Int) + 1) (by unfold inF; omega)
  rw [show ((i : Int) + 1 - 1).toNat = i by omega, hx] at h
  injection h with h
  exact h.symm
theorem siteF_in {i : Nat} {x : Sn} (hx : L[i]? = some x) : siteF L ((i : Int) + 1) = x.1 := by
  have hl := (List.getElem?_eq_some_iff.1 hx).1
  unfold siteF
  rw [if_pos (by unfold inF; omega), getF_in hx]
theorem tokF_in {i : Nat} {x : Sn} (hx : L[i]? = some x) : tokF L ((i : Int) + 1) = x.2.1 := by
  have hl := (List.getElem?_eq_some_iff.1 hx).1
  unfold tokF
  rw [if_pos (by unfold inF; omega), getF_in hx]
theorem St.len (h : St X w V sb rb N L m M) (n : Nat) (hn : L.length = n) : Calls Try.prog 19 #[hd sb] V (fun e w' => e = .returned (.int .i64 n) ∧ w' = V) := by
  obtain ⟨F, G, ⟨_, _, _, _, _, hS, _⟩, _⟩ := h
  rw [hn] at hS
  exact len_any hS
theorem St.site (h : St X w V sb rb N L m M) (hn : L.length ≤ 10000000000000) (k : Int) {s : Int} (hs : siteF L k = s) : Calls Try.prog 20 #[hd sb, .int .i64 k] V (fun e w' => e = .returned (.int .i64 s) ∧ w' = V) := by
  obtain ⟨F, G, h1, _⟩ := h
  rw [← hs]
  exact site_any h1 hn k
theorem St.token (h : St X w V sb rb N L m M) (hn : L.length ≤ 10000000000000) (k : Int) {t : List Int} (ht : tokF L k = t) (tl : Nat) (htl : t.length = tl) :
    Calls Try.prog 21 #[hd sb, .int .i64 k] V (fun e w' => ∃ A1 c1, e = .returned (.slice A1 tl c1) ∧ Hid (Ns .u8 w' w'.heap.size A1 t ∧ Below V.heap.size V w')) := by
  obtain ⟨F, G, h1, _⟩ := h
  refine (token_any h1 hn k).mono fun e w' ⟨A1, c1, n1, he, hl, ho, hb⟩ => ?_
  rw [ht] at hl ho
  rw [htl] at hl
  subst hl
  exact ⟨A1, c1, he, Lib.hid ⟨own_ns htl ho (Below.refl _ _), hb⟩⟩
theorem St.head (h : St X w V sb rb N L m M) (n : Nat) (hn : M.length = n) : ∃ A c, V.cell? ⟨rb, 0, none⟩ = some (.int .i64 N) ∧ V.cell? ⟨rb, 1, none⟩ = some (.slice A n c) := by
  obtain ⟨F, G, _, h2, _⟩ := h
  exact h2.head n hn
/-- A session of the document's, as the law reads it: behind whatever was made since. -/
theorem St.at (h : St X w V sb rb N L m M) {i : Nat} {x : Sn} (hx : M[i]? = some x) (n : Nat) (hn : M.length = n) (tl : Nat) (htl : x.2.1.length = tl) :
    ∃ g c At ct, (∀ U, Below V.heap.size V U → U.cell? ⟨rb, 1, none⟩ = some (.slice (some ⟨g, 0, none⟩) n c) ∧ U.cell? ⟨g, i * 3, none⟩ = some (.int .i64 x.1) ∧ U.cell? ⟨g, i * 3 + 1, none⟩ = some (.slice At tl ct) ∧ Ns .u8 U U.heap.size At x.2.1) := by
  obtain ⟨F, G, _, h2, _⟩ := h
  obtain ⟨A, c, n', g, At, ct, hn', hin, hA, c0, c1, ⟨e0, e1, e2⟩, _, ho, _, _⟩ := h2.at hx
  obtain rfl : n' = n := by omega
  subst hA htl
  refine ⟨g, c, At, ct, fun U hU => ?_⟩
  have lt : ∀ {p : Addr} {v : Value}, V.cell? p = some v → p.block < V.heap.size := fun h => World.block_lt_of_cell? V _ h
  exact ⟨(hU.cell (lt c1)).trans c1, (hU.cell (lt e0)).trans e0, (hU.cell (lt e1)).trans e1, own_ns rfl ho hU⟩
/-- A row that is held is read behind a call. -/
theorem Kept.ns2 {k : IntKind} {Y : Nat → Prop} {V' : World} {A : Option Addr} {zs : List Int} {n : Nat} (hk : Kept Y V V') (hS : St Y w V' sb rb N L m M) (hn : zs.length = n) (hY : ∀ j, At n A j → Y j) (h : Ns k V V.heap.size A zs) : Ns k V' V'.heap.size A zs := fun hp => by
  obtain ⟨b, off, e, _, hc⟩ := h hp
  have hb := hY b ⟨by omega, _, e, rfl⟩
  obtain ⟨F, G, _, _, _, _, _, _, h7⟩ := hS
  exact ⟨b, off, e, (h7 b hb).1, fun j hj => (World.cell?_of_block (a := ⟨b, off + j, none⟩) (hk b hb)).trans (hc j hj)⟩
end
end Sess
end Go.Proofs.Ytnmkhccgaedigaa
