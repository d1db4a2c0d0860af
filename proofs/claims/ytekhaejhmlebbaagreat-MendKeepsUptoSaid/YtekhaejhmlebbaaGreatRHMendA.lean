/-
 Several texts of this family in one: MendPlain, MendHeld, MendOpen, MendMap, MendGiveRef, MendGive.
-/
import Derived.Test.YtekhaejhmlebbaaGreatRHTreeA
import Derived.Test.YtekhaejhmlebbaaGreatRHTreeD
import Derived.Test.YtekhaejhmlebbaaGreatRGCode
import Derived.Test.YtekhaejhmlebbaaGreatRVersLacks
import Derived.Deep.RegionHeld3
import Derived.Deep.DrawnRows
/-
 Plain words of layer 14: what one holds, what one takes, gives and answers.
-/
namespace Go.Proofs.YtekhaejhmlebbaaGreat
namespace Mend
open Vers Num Ring Disk Tree Go.Proofs.YtekhaejhmlebbaaGreat.Code

def getF (l : List Rc) (k : Nm) : List Vr := (find l k).getD []
def heldF (l : List Rc) : List Rc := l.foldl withR []
def okL (l : List Rc) : Prop := ∀ r ∈ l, okR r
instance (l : List Rc) : Decidable (okL l) := by unfold okL; infer_instance
theorem find_with (l : List Rc) (r : Rc) (t : Nm) : find (withR l r) t = if t = r.1 then (if r.2 = [] then none else some r.2) else find l t := by
 unfold withR
 by_cases h : r.2 = []
 ·rw [if_pos h, if_pos h, find_wout]
 ·rw [if_neg h, if_neg h, find_wit]
theorem get_with (l : List Rc) (r : Rc) (t : Nm) : getF (withR l r) t = if t = r.1 then r.2 else getF l t := by
 unfold getF
 rw [find_with]
 by_cases ht : t = r.1
 ·rw [if_pos ht, if_pos ht]
  by_cases h : r.2 = []
  ·rw [if_pos h, h]; rfl
  ·rw [if_neg h]; rfl
 ·rw [if_neg ht, if_neg ht]
def Hel (l : List Rc) : Prop := Srt l ∧ ∀ r ∈ l, r.2 ≠ []
theorem hel_nil : Hel [] := ⟨Srt.nil, fun _ h => by cases h⟩
theorem Hel.with {l : List Rc} (h : Hel l) (r : Rc) : Hel (withR l r) := ⟨with_srt h.1 r, fun x hx => by
 rcases with_mem.1 hx with ⟨rfl, hn⟩ | ⟨hx, _⟩
 ·exact hn
 ·exact h.2 x hx⟩
theorem hel_fold (l : List Rc) : ∀ acc : List Rc, Hel acc → Hel (l.foldl withR acc) := by
 induction l with
 | nil => exact fun _ h => h
 | cons r l ih => exact fun acc h => ih _ (h.with r)
theorem held_hel (l : List Rc) : Hel (heldF l) := hel_fold l [] hel_nil
theorem held_snoc (l : List Rc) (r : Rc) : heldF (l ++ [r]) = withR (heldF l) r := by simp [heldF]
def lastF (l : List Rc) : List Rc := l.foldl (fun acc r => wit acc r.1 r.2) []
theorem last_snoc (l : List Rc) (r : Rc) : lastF (l ++ [r]) = wit (lastF l) r.1 r.2 := by simp [lastF]
theorem last_get (l : List Rc) (k : Nm) : getF (lastF l) k = getF (heldF l) k := by
 have h : ∀ (l a b : List Rc), (∀ k, getF a k = getF b k) → ∀ k, getF (l.foldl (fun acc r => wit acc r.1 r.2) a) k = getF (l.foldl withR b) k := by
  intro l
  induction l with
  | nil => exact fun a b h => h
  | cons r l ih =>
   intro a b h
   refine ih _ _ fun k => ?_
   rw [get_with]
   unfold getF
   rw [find_wit]
   by_cases hk : k = r.1
   ·rw [if_pos hk, if_pos hk]; rfl
   ·rw [if_neg hk, if_neg hk]; exact h k
 exact h l [] [] (fun _ => rfl) k
def mergeR (now : List Rc) (r : Rc) : List Rc := if (mergeF (getF now r.1) r.2).2 = 0 then withR now (r.1, (mergeF (getF now r.1) r.2).1) else now
def nowF (was theirs : List Rc) : List Rc := theirs.foldl mergeR was
def takeF (own theirs : List Rc) : List Rc := (nowF (heldF own) theirs).filter fun r => !decide (r.2 = getF (heldF own) r.1)
def baseT (was t : List Rc) (k : Nm) : List Vr := (find t k).getD (getF was k)
def mergeT (was t : List Rc) (r : Rc) : List Rc := if (mergeF (baseT was t r.1) r.2).2 = 0 then wit t r.1 (mergeF (baseT was t r.1) r.2).1 else t
def takenF (was theirs : List Rc) : List Rc := theirs.foldl (mergeT was) []
theorem merge_hel {now : List Rc} (h : Hel now) (r : Rc) : Hel (mergeR now r) := by
 unfold mergeR
 split
 ·exact h.with _
 ·exact h
theorem mergeT_srt {was t : List Rc} (h : Srt t) (r : Rc) : Srt (mergeT was t r) := by
 unfold mergeT
 split
 ·exact h.wit _ _
 ·exact h
theorem step_same {was t now : List Rc} (h : ∀ k, getF now k = baseT was t k) (r : Rc) : ∀ k, getF (mergeR now r) k = baseT was (mergeT was t r) k := by
 intro k
 unfold mergeR mergeT
 rw [h r.1]
 by_cases hm : (mergeF (baseT was t r.1) r.2).2 = 0
 ·rw [if_pos hm, if_pos hm, get_with]
  unfold baseT
  rw [find_wit]
  by_cases hk : k = r.1
  ·rw [if_pos hk, if_pos hk]; rfl
  ·rw [if_neg hk, if_neg hk]; exact h k
 ·rw [if_neg hm, if_neg hm]
  exact h k
theorem fold_same (was : List Rc) (theirs : List Rc) : ∀ t now : List Rc, Srt t → Hel now → (∀ k, getF now k = baseT was t k) → Srt (theirs.foldl (mergeT was) t) ∧ Hel (theirs.foldl mergeR now) ∧ ∀ k, getF (theirs.foldl mergeR now) k = baseT was (theirs.foldl (mergeT was) t) k := by
 induction theirs with
 | nil => exact fun t now h1 h2 h3 => ⟨h1, h2, h3⟩
 | cons r l ih => exact fun t now h1 h2 h3 => ih _ _ (mergeT_srt h1 r) (merge_hel h2 r) (step_same h3 r)
theorem taken_same (own theirs : List Rc) : (takenF (heldF own) theirs).filter (fun r => !decide (r.2 = []) && !decide (r.2 = getF (heldF own) r.1)) = takeF own theirs := by
 obtain ⟨h1, h2, h3⟩ := fold_same (heldF own) theirs [] (heldF own) Srt.nil (held_hel own) fun _ => rfl
 unfold takeF nowF takenF
 refine srt_mem (List.Pairwise.filter _ h1) (List.Pairwise.filter _ h2.1) fun x => ?_
 rw [List.mem_filter, List.mem_filter]
 constructor
 ·rintro ⟨hx, hp⟩
  simp at hp
  have hf := find_mem h1 hx
  have hg := h3 x.1
  unfold baseT at hg
  rw [hf] at hg
  refine ⟨?_, by simpa using hp.2⟩
  unfold getF at hg
  cases h4 : find (theirs.foldl mergeR (heldF own)) x.1 with
  | none => rw [h4] at hg; exact absurd hg.symm hp.1
  | some b =>
   rw [h4] at hg
   have h5 := find_some h4
   rw [show b = x.2 from hg] at h5
   exact h5
 ·rintro ⟨hx, hp⟩
  simp at hp
  have hf := find_mem h2.1 hx
  have hg := h3 x.1
  have hne := h2.2 x hx
  unfold getF baseT at hg
  rw [hf] at hg
  cases h4 : find (theirs.foldl (mergeT (heldF own)) []) x.1 with
  | none =>
   rw [h4] at hg
   exact absurd hg hp
  | some b =>
   rw [h4] at hg
   have h5 := find_some h4
   rw [show b = x.2 from hg.symm] at h5
   exact ⟨h5, by simp [hne, hp]⟩
def giveF (own : List Rc) (p : List Int) (theirs : List Rc) : List Rc := (recsF (heldF own) p).filter fun r => lacksF (getF (heldF theirs) r.1) r.2
abbrev Stp3 := List Int × List Int × List Rc
def stepF (all : List Rc) (p : List Int) (d : Int) : Stp3 := (p ++ [d], kidsF all (p ++ [d]), if (p ++ [d]).length = 1 then [] else recsF all (p ++ [d]))
def answerF (own : List Rc) (p : List Int) (hs : List Int) : List Stp3 := if okL own ∧ okP p ∧ p.length ≤ 1 then (diffF (kidsF (heldF own) p) hs).map (stepF (heldF own) p) else []
end Mend
end Go.Proofs.YtekhaejhmlebbaaGreat

/-
 The document's Held and Get (layer 14).
-/
namespace Go.Proofs.YtekhaejhmlebbaaGreat
namespace Mend
open Go.RowKit Vers Num Ring Disk Blk Tree
open Go.Proofs.YtekhaejhmlebbaaGreat.Code hiding Bn
attribute [local go_sem ↓] Go.wp_at_zero Go.wp_at_succ
theorem take_at {l : List Rc} {k : Nat} (hk : k < l.length) : l.take (k + 1) = l.take k ++ [l.getD k r0] := by
 rw [List.take_succ_eq_append_getElem hk]
 simp [List.getD_eq_getElem?_getD, hk]
theorem held_take {l : List Rc} {k : Nat} {r : Rc} (hk : k < l.length) (hr : l.getD k r0 = r) : heldF (l.take (k + 1)) = withR (heldF (l.take k)) r := by
 rw [take_at hk, hr, held_snoc]
theorem getD_mem {l : List Rc} {k : Nat} (hk : k < l.length) : l.getD k r0 ∈ l := by
 rw [List.getD_eq_getElem?_getD, List.getElem?_eq_getElem hk]
 exact List.getElem_mem _
theorem held_len (l : List Rc) : (heldF l).length ≤ l.length := by
 have h : ∀ (l acc : List Rc), (l.foldl withR acc).length ≤ acc.length + l.length := by
  intro l
  induction l with
  | nil => intro acc; simp
  | cons r l ih =>
   intro acc
   have h1 := ih (withR acc r)
   have h2 := with_len acc r
   simp only [List.foldl_cons, List.length_cons]
   omega
 simpa [heldF] using h l []
theorem RowX.keepB {base B : Nat} {w w' : World} {v : Value} {ps : List Pr} (h : RowX base B w v ps) (hb : Below w.heap.size w w') (hB : B ≤ w.heap.size) : RowX base B w' v ps := by
 refine ⟨own_below h.1 hb (Nat.le_refl _), fun p hp => ⟨(h.2 p hp).1.below (hb.mono hB), (h.2 p hp).2⟩⟩
theorem Rb.below {w w' : World} {B : Nat} {A : Option Addr} {l : List Rc} (h : Rb w B A l) (hB : B ≤ w.heap.size) (hb : Below w.heap.size w w') : Rb w' B A l := fun hp => by
 obtain ⟨b, off, e, hbB, hc⟩ := h hp
 refine ⟨b, off, e, Nat.lt_of_lt_of_le hbB hb.size, fun j hj => ?_⟩
 obtain ⟨A', c', h0, h1, h2, h3⟩ := hc j hj
 exact ⟨A', c', (hb.cell (p := ⟨b, _, none⟩) hbB).trans h0, (hb.cell (p := ⟨b, _, none⟩) hbB).trans h1, h2.below (hb.mono hB), h3⟩
def Helds (B : Nat) (l : List Rc) (V : World) (e : Ending) (w' : World) : Prop :=
 (okL l ∧ ∃ A m c ps, e = .returned (.tuple #[.slice A m c, .bool true]) ∧ Hid (ps.map Prod.fst = heldF l ∧ (heldF l).length = m ∧ m ≤ c ∧ RowX V.heap.size B w' (.slice A m c) ps) ∧ Below V.heap.size V w') ∨
 (¬ okL l ∧ e = .returned (.tuple #[.slice none 0 0, .bool false]) ∧ Below V.heap.size V w')
def HeldUp (B : Nat) (l : List Rc) (n : Nat) (V : World) (v q : Value) (wr : World) : Prop :=
 ∃ (k na : Nat) (Aa : Option Addr) (ca : Nat), q = .int .i64 k ∧ k ≤ n ∧ v = .slice Aa na ca ∧ na ≤ k ∧ Hid ((heldF (l.take k)).length = na ∧ na ≤ ca ∧ (∀ j, j < k → okR (l.getD j r0)) ∧ ∃ ps, ps.map Prod.fst = heldF (l.take k) ∧ RowX V.heap.size B wr (.slice Aa na ca) ps ∧ Below V.heap.size V wr)
set_option maxRecDepth 100000 in
set_option maxHeartbeats 4000000 in
theorem held_any (A : Option Addr) (c n B : Nat) (l : List Rc) (hn : l.length = n) (hbig : n ≤ 3518437208882) (V : World) (hB : B ≤ V.heap.size) (hr : Rb V B A l) :
  Calls Tryz.prog 11 #[.slice A n c] V (Helds B l V) := by
 have HP := Lib.hid (And.intro hn (And.intro hB hr))
 have HI : Hid (HeldUp B l n V (.slice none 0 0) (.int .i64 0) V) := Lib.hid ⟨0, 0, none, 0, rfl, by omega, rfl, Nat.le_refl _, Lib.hid ⟨rfl, Nat.le_refl _, (fun j hj => by omega), [], rfl, rowX_nil _ _ _, Below.refl _ _⟩⟩
 clear hn hB hr
 go_enter Tryz.func11, Tryz.ntmps11
 go_wp2_with fail
 go_loopw [4, 5] (fun v q wr => HeldUp B l n V v q wr) (fun _ q _ => n - (intOf q).toNat)
 case atStart => exact HI.out
 case round =>
  clear HI
  obtain ⟨k, na, Aa, ca, rfl, hk, rfl, hna, hst⟩ := hrel
  have hbV : Below V.heap.size V wr := by obtain ⟨_, _, _, ps, _, _, hb⟩ := hst.out; exact hb
  by_cases hlt : k < n
  ·have d1 : (0 : Int) ≤ (k : Int) := by omega
   have d2 : (k : Int) < (n : Int) := by omega
   obtain ⟨pb, off, A4, c4, rfl, _, hbB, k0, k1, k2, k3⟩ := HP.out.2.2.at HP.out.1 HP.out.2.1 hbV hlt rfl
   obtain ⟨r, hrr⟩ : ∃ r, l.getD k r0 = r := ⟨_, rfl⟩
   rw [hrr] at k0 k1 k2 k3
   obtain ⟨key', lv'⟩ := r
   simp only at k0 k1 k2 k3
   obtain ⟨ml, hml⟩ : ∃ ml, lv'.length = ml := ⟨_, rfl⟩
   rw [hml] at k1 k3
   have hkl : k < l.length := by have := HP.out.1; omega
   have hVw := hbV.size
   have hBw := Nat.le_trans HP.out.2.1 hVw
   have H1 := refrecord_any A4 c4 ml key' lv' hml k3.2.1 k3.2.2 wr (k2.more hBw)
   by_cases hok : okR (key', lv')
   ·rw [decide_eq_true hok] at H1
    have H1 := Lib.hid H1
    have HW : Hid (∀ w3, Below wr.heap.size wr w3 → w3.cell? ⟨pb, off + k * 2, none⟩ = some (.string key') ∧ w3.cell? ⟨pb, off + k * 2 + 1, none⟩ = some (.slice A4 ml c4) ∧ Hid (Calls Tryz.prog 34 #[.slice Aa na ca, .agg #[.string key', .slice A4 ml c4]] w3 (fun e w4 => ∃ A5 n5 c5, e = .returned (.slice A5 n5 c5) ∧ Hid (HeldUp B l n V (.slice A5 n5 c5) (.int .i64 ((k : Int) + 1)) w4)))) := Lib.hid fun w3 b3 => by
     obtain ⟨g1, g2, g3, ps, hps, hrow, hb⟩ := hst.out
     refine ⟨(b3.cell (p := ⟨pb, _, none⟩) (by show pb < _; omega)).trans k0, (b3.cell (p := ⟨pb, _, none⟩) (by show pb < _; omega)).trans k1, Lib.hid ?_⟩
     have hrow3 := RowX.keepB hrow b3 hBw
     have hrb := hrow3.rb
     rw [hps] at hrb
     refine (with_any Aa A4 ca c4 na ml B (heldF (l.take k)) key' lv' g1 (by omega) hml k3 w3 (Nat.le_trans hBw b3.size) hrb (k2.below (b3.mono hBw))).mono ?_
     rintro e w4 ⟨A5, n5, c5, ps5, rfl, h5, b4⟩
     refine ⟨A5, n5, c5, rfl, Lib.hid ⟨k + 1, n5, A5, c5, by go_num, by omega, rfl, ?_, Lib.hid ?_⟩⟩
     ·have h6 := with_len (heldF (l.take k)) (key', lv')
      rw [g1, h5.out.2.1] at h6
      omega
     ·rw [held_take hkl hrr]
      refine ⟨h5.out.2.1, h5.out.2.2.1, fun j hj => ?_, ps5, h5.out.1, h5.out.2.2.2.low (Nat.le_trans hVw b3.size), hb.trans ((b3.mono hVw).trans (b4.mono (Nat.le_trans hVw b3.size)))⟩
      rcases Nat.lt_or_ge j k with h | h
      ·exact g3 j h
      ·rw [show j = k by omega, hrr]
       exact hok
    clear hst hbV k2 k3 hrr hml hok hBw hVw
    go_wp2_with fail
    refine H1.out.mono ?_
    rintro e3 w3 ⟨rfl, b3⟩
    obtain ⟨q0, q1, HC⟩ := HW.out w3 b3
    clear b3 HW H1
    go_wp2_with fail
    refine HC.out.mono ?_
    rintro e4 w4 ⟨A5, n5, c5, rfl, HF⟩
    go_wp2_with fail
    go_roundw
    case rel => exact HF.out
    case measure => simp only [intOf]; omega
   ·rw [decide_eq_false hok] at H1
    have H1 := Lib.hid H1
    have HN : Hid (¬ okL l ∧ Below V.heap.size V wr) := Lib.hid ⟨fun h => hok (by rw [← hrr]; exact h _ (getD_mem hkl)), hbV⟩
    clear hst hbV k2 k3 hrr hml hok hBw hVw
    go_wp2_with fail
    refine H1.out.mono ?_
    rintro e3 w3 ⟨rfl, b3⟩
    have HE : Hid (Helds B l V (.returned (.tuple #[.slice none 0 0, .bool false])) w3) := Lib.hid (.inr ⟨HN.out.1, rfl, HN.out.2.trans (b3.mono HN.out.2.size)⟩)
    clear b3 H1
    go_wp2_with fail
    go_ret2
    exact HE.out
  ·have hkm : k = n := by omega
   subst hkm
   have hfull : l.take k = l := List.take_of_length_le (by have := HP.out.1; omega)
   rw [hfull] at hst
   have HF : Hid (Helds B l V (.returned (.tuple #[.slice Aa na ca, .bool true])) wr) := Lib.hid (.inl (by
    obtain ⟨g1, g2, g3, ps, hps, hrow, hb⟩ := hst.out
    refine ⟨fun r hr => ?_, Aa, na, ca, ps, rfl, Lib.hid ⟨hps, g1, g2, hrow⟩, hb⟩
    obtain ⟨j, hj, rfl⟩ := List.mem_iff_getElem.1 hr
    have h1 := g3 j (by have := HP.out.1; omega)
    rwa [List.getD_eq_getElem?_getD, List.getElem?_eq_getElem hj] at h1))
   clear hst hfull hbV
   go_wp2_with fail
   go_ret2
   exact HF.out
theorem find_drop {l : List Rc} {i : Nat} {r : Rc} (hi : i < l.length) (hr : l.getD i r0 = r) (key : Nm) : find (l.drop i) key = if r.1 = key then some r.2 else find (l.drop (i + 1)) key := by
 rw [drop_at hi, hr]
 rfl
def Gets (B : Nat) (zs : List Vr) (w : World) (e : Ending) (w' : World) : Prop := ∃ A m c, e = .returned (.slice A m c) ∧ Hid (zs.length = m ∧ m ≤ c ∧ m ≤ 140737488355328 ∧ Vs w 0 B A zs) ∧ w' = w
set_option maxRecDepth 100000 in
set_option maxHeartbeats 2000000 in
theorem get_any (A : Option Addr) (c n B : Nat) (l : List Rc) (hn : l.length = n) (key : Nm) (w : World) (hB : B ≤ w.heap.size) (hr : Rb w B A l) (hbig : n ≤ 140737488355328) :
  Calls Tryz.prog 28 #[.slice A n c, .string key] w (Gets B (getF l key) w) := by
 have HP := Lib.hid (And.intro hn (And.intro hB hr))
 clear hn hB hr
 go_enter Tryz.func28, Tryz.ntmps28
 go_wp2_with fail
 go_loopw [5] (fun q wr => ∃ i : Nat, q = .int .i64 i ∧ i ≤ n ∧ Hid (find l key = find (l.drop i) key ∧ wr = w)) (fun q _ => n - (intOf q).toNat)
 case atStart => exact ⟨0, rfl, by omega, Lib.hid ⟨by simp, rfl⟩⟩
 case round =>
  obtain ⟨i, rfl, hi, hst⟩ := hrel
  obtain ⟨hf, rfl⟩ := hst.out
  clear hst
  by_cases hlt : i < n
  ·have d1 : (0 : Int) ≤ (i : Int) := by omega
   have d2 : (i : Int) < (n : Int) := by omega
   obtain ⟨pb, off, A4, c4, rfl, _, hbB, k0, k1, k2, k3⟩ := HP.out.2.2.at HP.out.1 HP.out.2.1 (Below.refl _ _) hlt rfl
   obtain ⟨r, hrr⟩ : ∃ r, l.getD i r0 = r := ⟨_, rfl⟩
   have hfd := find_drop (by have := HP.out.1; omega) hrr key
   rw [hrr] at k0 k1 k2 k3
   obtain ⟨key', lv'⟩ := r
   simp only at k0 k1 k2 k3 hfd
   obtain ⟨ml, hml⟩ : ∃ ml, lv'.length = ml := ⟨_, rfl⟩
   rw [hml] at k1 k3
   by_cases hkk : key' = key
   ·have e1 : (key'.toList == key.toList) = true := by rw [hkk]; simp
    rw [if_pos hkk] at hfd
    have HF : Hid (Gets B (getF l key) wr (.returned (.slice A4 ml c4)) wr) := Lib.hid ⟨A4, ml, c4, rfl, Lib.hid (by
     have : getF l key = lv' := by unfold getF; rw [hf, hfd]; rfl
     rw [this]
     exact ⟨hml, k3.1, k3.2.1, k2⟩), rfl⟩
    clear hf hfd hkk hrr hml k2 k3
    go_wp2_with fail
    go_ret
    exact HF.out
   ·have e1 : (key'.toList == key.toList) = false := by rw [nm_eq]; exact decide_eq_false hkk
    rw [if_neg hkk] at hfd
    have HF := Lib.hid (hf.trans hfd)
    clear hf hfd hkk hrr hml k2 k3 k1
    go_wp2_with fail
    go_roundw
    case rel => exact ⟨i + 1, by go_num, by omega, Lib.hid ⟨HF.out, by first | rfl | trivial⟩⟩
    case measure => simp only [intOf]; omega
  ·have hin : i = n := by omega
   subst hin
   have HF : Hid (Gets B (getF l key) wr (.returned (.slice none 0 0)) wr) := Lib.hid ⟨none, 0, 0, rfl, Lib.hid (by
    have : getF l key = [] := by unfold getF; rw [hf, List.drop_eq_nil_of_le (by have := HP.out.1; omega)]; rfl
    rw [this]
    exact ⟨rfl, Nat.le_refl _, by omega, Vs.nil _⟩), rfl⟩
   clear hf
   go_wp2_with fail
   go_ret
   exact HF.out
end Mend
end Go.Proofs.YtekhaejhmlebbaaGreat

/-
 mend.Open: the hashes by which one begins (layer 14).
-/
namespace Go.Proofs.YtekhaejhmlebbaaGreat
namespace Mend
open Go.RowKit Vers Num Ring Disk Blk Tree
open Go.Proofs.YtekhaejhmlebbaaGreat.Code hiding Bn
attribute [local go_sem ↓] Go.wp_at_zero Go.wp_at_succ
def openF (l : List Rc) : List Int := if okL l then kidsF (heldF l) [] else []
def Hashd (zs : List Int) (V : World) (e : Ending) (w' : World) : Prop := ∃ A m c, e = .returned (.slice A m c) ∧ Hid (zs.length = m ∧ Ns .u64 w' w'.heap.size A zs) ∧ Below V.heap.size V w'
set_option maxRecDepth 100000 in
set_option maxHeartbeats 2000000 in
theorem open_any (A : Option Addr) (c n : Nat) (l : List Rc) (hn : l.length = n) (hbig : n ≤ 3518437208882) (V : World) (hr : Rs V 0 V.heap.size A l) :
  Calls Tryz.prog 14 #[.slice A n c] V (Hashd (openF l) V) := by
 by_cases hok : okL l
 ·have H1 := Lib.hid (on_new (Below.refl V.heap.size V) A c n l hn hbig hr hok)
  have HO : Hid (openF l = kidsF (heldF l) []) := Lib.hid (by unfold openF; rw [if_pos hok])
  have HN := Lib.hid hn
  clear hok hn hr
  go_enter Tryz.func14, Tryz.ntmps14
  go_wp2_with fail
  refine H1.out.mono ?_
  rintro e1 w1 ⟨tb, rfl, h1⟩
  have H2 : Hid (Calls Tryz.prog 39 #[.pointer (some ⟨tb, 0, none⟩), .slice none 0 0] w1 (fun e w' => Hashd (openF l) V e w' ∧ ∃ v, e = .returned v)) := Lib.hid (by
   obtain ⟨F, o, hF, hb⟩ := h1.out
   have hl : (layF l).length ≤ 3518437208882 := by have := held_len l; have := HN.out; have : layF l = heldF l := rfl; rw [this]; omega
   refine (o.kids hl none 0 0 [] rfl (by omega) ns_nil).mono ?_
   rintro e w' ⟨A', m, c', rfl, hx⟩
   obtain ⟨q1, q2, q3, q4, q5, q6⟩ := hx.out
   exact ⟨⟨A', m, c', rfl, Lib.hid (by rw [HO.out]; exact ⟨q1, q3⟩), q5.old⟩, _, rfl⟩)
  clear h1 H1
  unfold hd
  go_wp2_with fail
  refine H2.out.mono ?_
  rintro e2 w2 ⟨h2, v, rfl⟩
  have HF := Lib.hid h2
  clear h2 H2
  go_wp2_with fail
  go_ret
  exact HF.out
 ·have H1 := Lib.hid (no_new A c n l hn hbig hr hok)
  have HO : Hid (openF l = []) := Lib.hid (by unfold openF; rw [if_neg hok])
  clear hok hn hr
  go_enter Tryz.func14, Tryz.ntmps14
  go_wp2_with fail
  refine H1.out.mono ?_
  rintro e1 w1 ⟨rfl, b1⟩
  have HF : Hid (Hashd (openF l) V (.returned (.slice none 0 0)) w1) := Lib.hid ⟨none, 0, 0, rfl, Lib.hid (by rw [HO.out]; exact ⟨rfl, ns_nil⟩), b1⟩
  clear b1 H1
  go_wp2_with fail
  go_ret
  exact HF.out
end Mend
end Go.Proofs.YtekhaejhmlebbaaGreat

/-
 The map by which one holds records (layer 14).
-/
namespace Go.Proofs.YtekhaejhmlebbaaGreat
namespace Mend
open Go.RowKit Blk Go.Maps Disk Tree Vers Num Ring
open Go.Proofs.YtekhaejhmlebbaaGreat.Code hiding Bn
attribute [local go_sem ↓] Go.wp_at_zero Go.wp_at_succ
section
variable {w w' : World} {mb : Nat} {l : Vl}
theorem hm_look (h : MI w mb l) (s : Nm) (hs : Tree.okN s) : (Instr.lookup 82 (.map (some mb)) (.string s) false).run Tryz.prog w = .ok ((find l s).getD (.slice none 0 0)) w := by
 obtain ⟨D, n, ho, hm, _, _, _⟩ := h
 obtain ⟨kl, hkl⟩ := key_of hs
 obtain ⟨v, ps, hrun, hv⟩ := ho.lookup (t := 82) (e := 50) keyed Tryz.underlying82 (zeroS w) (zd := .held (.slice none 0 0)) (zp := []) rfl hkl
 have hv3 : v = (find l s).getD (.slice none 0 0) := held_is hm hkl hv
 rw [← hv3]
 exact hrun
theorem hm_look_ok (h : MI w mb l) (s : Nm) (hs : Tree.okN s) : (Instr.lookup 82 (.map (some mb)) (.string s) true).run Tryz.prog w = .ok (.tuple #[(find l s).getD (.slice none 0 0), .bool (find l s).isSome]) w := by
 obtain ⟨D, n, ho, hm, _, _, _⟩ := h
 obtain ⟨kl, hkl⟩ := key_of hs
 obtain ⟨v, ps, hrun, hv⟩ := ho.look_ok (t := 82) (e := 50) keyed Tryz.underlying82 (zeroS w) (zd := .held (.slice none 0 0)) (zp := []) rfl hkl
 have hv3 : v = (find l s).getD (.slice none 0 0) := held_is hm hkl hv
 rw [← hv3, ← hm.has hkl]
 exact hrun
theorem hm_store (h : MI w mb l) (hn : l.length < 140737488355328) (s : Nm) (hs : Tree.okN s) (v : Value) : ∃ w', (Instr.mapUpdate 82 (.map (some mb)) (.string s) v).run Tryz.prog w = .ok () w' ∧ MI w' mb (wit l s v) ∧ w.grownBy w' (some mb) := by
 obtain ⟨D, n, ho, hm, hsr, hok, hsz⟩ := h
 obtain ⟨kl, hkl⟩ := key_of hs
 obtain ⟨w', hrun, h1, h2⟩ := (shrink ho).store (t := 82) (e := 50) keyed Tryz.underlying82 (by rw [hsz]; unfold maxLen; omega) (d := .held v) (ps := []) hkl rfl
 refine ⟨w', hrun, ⟨_, _, h1, fun t kt hkt z => ?_, hsr.wit s v, fun x hx => ?_, ?_⟩, h2.grown⟩
 ·rw [find_wit]
  by_cases e : t = s
  ·subst e
   obtain rfl : kt = kl := by rw [hkt] at hkl; injection hkl
   rw [if_pos rfl, Maps.atKey_put_same ho.isMap (keyed.key hkl)]
  ·rw [if_neg e, Maps.atKey_put_other (fun q => e (key_inj hkt (by rw [q]; exact hkl)))]
   exact hm t kt hkt z
 ·rcases mem_wit.1 hx with rfl | ⟨hx, _⟩
  ·exact hs
  ·exact hok x hx
 ·rw [Maps.size_put (ho.tidy keyed), hm.has hkl, hsz, wit, len_ins]
  have := len_wout hsr s
  split at this <;> rename_i hc
  ·rw [if_pos hc]; omega
  ·rw [if_neg hc]; omega
end
def HoldR (w : World) (B : Nat) (D : Vl) (L : List Rc) : Prop := ∀ k, (find L k = none ∧ find D k = none) ∨ ∃ lv A c, find L k = some lv ∧ find D k = some (.slice A lv.length c) ∧ Vs w 0 B A lv ∧ lv.length ≤ c ∧ lv.length ≤ 512
theorem HoldR.keep {w w' : World} {B : Nat} {D : Vl} {L : List Rc} (h : HoldR w B D L) (hb : Below B w w') : HoldR w' B D L := fun k => by
 rcases h k with h | ⟨lv, A, c, h1, h2, h3, h4⟩
 ·exact .inl h
 ·exact .inr ⟨lv, A, c, h1, h2, h3.below hb, h4⟩
theorem HoldR.put {w : World} {B : Nat} {D : Vl} {L : List Rc} (h : HoldR w B D L) {key : Nm} {lv : List Vr} {A : Option Addr} {c m : Nat} (hm : lv.length = m) (hv : Vs w 0 B A lv) (hc : m ≤ c) (h5 : lv.length ≤ 512) : HoldR w B (wit D key (.slice A m c)) (wit L key lv) := fun k => by
 rw [find_wit, find_wit]
 by_cases hk : k = key
 ·rw [if_pos hk, if_pos hk]
  exact .inr ⟨lv, A, c, rfl, by rw [hm], hv, by omega, h5⟩
 ·rw [if_neg hk, if_neg hk]
  exact h k
theorem hold_get {w : World} {B : Nat} {D : Vl} {L : List Rc} (h : HoldR w B D L) (k : Nm) : ∃ A c, (find D k).getD (.slice none 0 0) = .slice A (getF L k).length c ∧ Vs w 0 B A (getF L k) ∧ (getF L k).length ≤ c ∧ (getF L k).length ≤ 512 := by
 unfold getF
 rcases h k with ⟨h1, h2⟩ | ⟨lv, A, c, h1, h2, h3, h4, h5⟩
 ·rw [h1, h2]
  exact ⟨none, 0, rfl, Vs.nil _, Nat.le_refl _, by simp⟩
 ·rw [h1, h2]
  exact ⟨A, c, rfl, h3, h4, h5⟩
def Holds (B : Nat) (l : List Rc) (V : World) (e : Ending) (w' : World) : Prop :=
 (okL l ∧ ∃ mb D, e = .returned (.tuple #[.map (some mb), .bool true]) ∧ Hid (MI w' mb D ∧ HoldR w' B D (lastF l) ∧ V.heap.size ≤ mb) ∧ Below V.heap.size V w') ∨
 (¬ okL l ∧ e = .returned (.tuple #[.map none, .bool false]) ∧ Below V.heap.size V w')
def HoldUp (B : Nat) (l : List Rc) (n mb : Nat) (V : World) (q : Value) (wr : World) : Prop :=
 ∃ k : Nat, q = .int .i64 k ∧ k ≤ n ∧ Hid ((∀ j, j < k → okR (l.getD j r0)) ∧ ∃ D, MI wr mb D ∧ D.length ≤ k ∧ HoldR wr B D (lastF (l.take k)) ∧ Below V.heap.size V wr)
set_option maxRecDepth 100000 in
set_option maxHeartbeats 4000000 in
theorem hold_any (A : Option Addr) (c n B : Nat) (l : List Rc) (hn : l.length = n) (hbig : n ≤ 3518437208882) (V : World) (hB : B ≤ V.heap.size) (hr : Rb V B A l) :
  Calls Tryz.prog 47 #[.slice A n c] V (Holds B l V) := by
 have hmm := @run_makeMap Tryz.prog
 obtain ⟨U, hU⟩ : ∃ U, V.alloc (.map #[] 0) = U := ⟨_, rfl⟩
 obtain ⟨mb, hmb⟩ : ∃ mb, V.heap.size = mb := ⟨_, rfl⟩
 have bU : Below V.heap.size V U := by rw [← hU]; exact (Below.refl _ V).alloc (Nat.le_refl _) _
 have HI : Hid (HoldUp B l n mb V (.int .i64 0) U) := Lib.hid ⟨0, rfl, by omega, Lib.hid ⟨(fun j hj => by omega), [], by rw [← hU, ← hmb]; exact mi_made V, Nat.le_refl _, (fun k => .inl ⟨rfl, rfl⟩), bU⟩⟩
 have HP := Lib.hid (And.intro hn (And.intro hB (And.intro hr hmb)))
 clear hn hB hr bU
 go_enter Tryz.func47, Tryz.ntmps47
 go_wp2_with fail
 go_loopw [10] (fun q wr => HoldUp B l n mb V q wr) (fun q _ => n - (intOf q).toNat)
 case atStart => exact HI.out
 case round =>
  clear HI
  obtain ⟨k, rfl, hk, hst⟩ := hrel
  have hbV : Below V.heap.size V wr := by obtain ⟨_, D, _, _, _, hb⟩ := hst.out; exact hb
  by_cases hlt : k < n
  ·have d1 : (0 : Int) ≤ (k : Int) := by omega
   have d2 : (k : Int) < (n : Int) := by omega
   obtain ⟨pb, off, A4, c4, rfl, _, hbB, k0, k1, k2, k3⟩ := HP.out.2.2.1.at HP.out.1 HP.out.2.1 hbV hlt rfl
   obtain ⟨r, hrr⟩ : ∃ r, l.getD k r0 = r := ⟨_, rfl⟩
   rw [hrr] at k0 k1 k2 k3
   obtain ⟨key', lv'⟩ := r
   simp only at k0 k1 k2 k3
   obtain ⟨ml, hml⟩ : ∃ ml, lv'.length = ml := ⟨_, rfl⟩
   rw [hml] at k1 k3
   have hkl : k < l.length := by have := HP.out.1; omega
   have hVw := hbV.size
   have hBw := Nat.le_trans HP.out.2.1 hVw
   obtain ⟨Y, hY⟩ : ∃ Y, wr.alloc (.cells #[.string key', .slice A4 ml c4] 53) = Y := ⟨_, rfl⟩
   obtain ⟨rb, hrb⟩ : ∃ rb, wr.heap.size = rb := ⟨_, rfl⟩
   have bY : Below wr.heap.size wr Y := by rw [← hY]; exact (Below.refl _ wr).alloc (Nat.le_refl _) _
   have BY : Blk.Bn rb 53 [.string key', .slice A4 ml c4] Y := by rw [← hY, ← hrb]; exact World.alloc_heap_new _ _
   have H1 := rrecord_any A4 c4 ml key' lv' hml k3.2.1 k3.2.2 Y ((k2.below (bY.mono hBw)).more (Nat.le_trans hBw bY.size))
   have hcl : ∀ w3, Below Y.heap.size Y w3 → w3.cell? ⟨rb, 0, none⟩ = some (.string key') ∧ w3.cell? ⟨rb, 1, none⟩ = some (.slice A4 ml c4) := fun w3 b3 => by
    have hB3 := BY.same (b3.block rb BY.lt)
    have x0 := hB3.cell 0
    have x1 := hB3.cell 1
    simp only [List.getElem?_cons_zero, List.getElem?_cons_succ] at x0 x1
    exact ⟨x0, x1⟩
   obtain ⟨x0, x1⟩ := hcl Y (Below.refl _ _)
   by_cases hok : okR (key', lv')
   ·rw [decide_eq_true hok] at H1
    have H1 := Lib.hid H1
    have HW : Hid (∀ w3, Below Y.heap.size Y w3 → w3.cell? ⟨rb, 0, none⟩ = some (.string key') ∧ w3.cell? ⟨rb, 1, none⟩ = some (.slice A4 ml c4) ∧ ∃ w4, (Instr.mapUpdate 82 (.map (some mb)) (.string key') (.slice A4 ml c4)).run Tryz.prog w3 = .ok () w4 ∧ Hid (HoldUp B l n mb V (.int .i64 ((k : Int) + 1)) w4)) := Lib.hid fun w3 b3 => by
     refine ⟨(hcl w3 b3).1, (hcl w3 b3).2, ?_⟩
     obtain ⟨g1, D, hmi, hlen, hh, hb⟩ := hst.out
     have b13 : Below wr.heap.size wr w3 := bY.trans (b3.mono bY.size)
     have hmb := hmi.lt
     have hmi3 := hmi.same (b13.block mb hmb)
     obtain ⟨w4, hrun, hmi4, hg⟩ := hm_store hmi3 (by omega) key' (by have := hok.2.1; unfold Tree.okN maxLen; simp only at this; omega) (.slice A4 ml c4)
     refine ⟨w4, hrun, Lib.hid ⟨k + 1, by go_num, by omega, Lib.hid ⟨fun j hj => ?_, _, hmi4, ?_, ?_, ?_⟩⟩⟩
     ·rcases Nat.lt_or_ge j k with h | h
      ·exact g1 j h
      ·rw [show j = k by omega, hrr]
       exact hok
     ·rw [wit, Tree.ins_len]
      have := wout_len D key'
      omega
     ·rw [take_at hkl, hrr, last_snoc]
      have h34 : Below B w3 w4 := (Below.refl B w3).grown hg (Nat.le_trans hBw b13.size) (fun j hj => by injection hj with hj; subst hj; have := HP.out.2.2.2; have := HP.out.2.1; omega)
      exact ((hh.keep (b13.mono hBw)).keep h34).put hml ((k2.below (b13.mono hBw)).below h34) k3.1 (by have := hok.2.2.1; simp only at this; omega)
     ·exact (hb.trans (b13.mono hVw)).grown hg (Nat.le_trans hVw b13.size) (fun j hj => by injection hj with hj; subst hj; have := HP.out.2.2.2; omega)
    clear hst hbV k2 k3 hrr hml hok hBw hVw bY BY hcl hkl
    go_wp2_with fail
    refine H1.out.mono ?_
    rintro e3 w3 ⟨rfl, b3⟩
    obtain ⟨q0, q1, w4, hrun, HF⟩ := HW.out w3 b3
    clear b3 HW H1 x0 x1 hY
    go_wp2_with fail
    go_roundw
    case rel => exact HF.out
    case measure => simp only [intOf]; omega
   ·rw [decide_eq_false hok] at H1
    have H1 := Lib.hid H1
    have HN : Hid (¬ okL l ∧ Below V.heap.size V Y) := Lib.hid ⟨fun h => hok (by rw [← hrr]; exact h _ (getD_mem hkl)), hbV.trans (bY.mono hVw)⟩
    clear hst hbV k2 k3 hrr hml hok hBw hVw bY BY hcl hkl
    go_wp2_with fail
    refine H1.out.mono ?_
    rintro e3 w3 ⟨rfl, b3⟩
    have HE : Hid (Holds B l V (.returned (.tuple #[.map none, .bool false])) w3) := Lib.hid (.inr ⟨HN.out.1, rfl, HN.out.2.trans (b3.mono HN.out.2.size)⟩)
    clear b3 H1
    go_wp2_with fail
    go_ret2
    exact HE.out
  ·have hkm : k = n := by omega
   subst hkm
   have hfull : l.take k = l := List.take_of_length_le (by have := HP.out.1; omega)
   have HF : Hid (Holds B l V (.returned (.tuple #[.map (some mb), .bool true])) wr) := Lib.hid (.inl (by
    obtain ⟨g1, D, hmi, hlen, hh, hb⟩ := hst.out
    rw [hfull] at hh
    refine ⟨fun r hr => ?_, mb, D, rfl, Lib.hid ⟨hmi, hh, Nat.le_of_eq HP.out.2.2.2⟩, hb⟩
    obtain ⟨j, hj, rfl⟩ := List.mem_iff_getElem.1 hr
    have h1 := g1 j (by have := HP.out.1; omega)
    rwa [List.getD_eq_getElem?_getD, List.getElem?_eq_getElem hj] at h1))
   clear hst hfull hbV
   go_wp2_with fail
   go_ret2
   exact HF.out
end Mend
end Go.Proofs.YtekhaejhmlebbaaGreat

/-
 The document's Give (layer 14).
-/
namespace Go.Proofs.YtekhaejhmlebbaaGreat
namespace Mend
open Go.RowKit Vers Num Ring Disk Blk Tree
open Go.Proofs.YtekhaejhmlebbaaGreat.Code hiding Bn
attribute [local go_sem ↓] Go.wp_at_zero Go.wp_at_succ
def RecsT (l : List Rc) (V : World) (e : Ending) (w' : World) : Prop := ∃ A m c, e = .returned (.slice A m c) ∧ Hid (l.length = m ∧ m ≤ c ∧ Rs w' 0 w'.heap.size A l) ∧ Below V.heap.size V w'
def lackR (has : List Rc) (r : Rc) : Bool := lacksF (getF has r.1) r.2
def giveR (own : List Rc) (p : List Int) (theirs : List Rc) : List Rc := if okL own ∧ okL theirs then giveF own p theirs else []
theorem filter_take {l : List Rc} (f : Rc → Bool) {k : Nat} {r : Rc} (hk : k < l.length) (hr : l.getD k r0 = r) : (l.take (k + 1)).filter f = (l.take k).filter f ++ (if f r = true then [r] else []) := by
 rw [take_at hk, hr, List.filter_append, List.filter_cons, List.filter_nil]
theorem rs_rb {w : World} {A : Option Addr} {l : List Rc} (h : Rs w 0 w.heap.size A l) : Rb w w.heap.size A l := fun hp => by
 obtain ⟨b, off, e, _, hb, hc⟩ := h hp
 exact ⟨b, off, e, hb, hc⟩
theorem rb_rs {w : World} {B : Nat} {A : Option Addr} {l : List Rc} (h : Rb w B A l) (hB : B ≤ w.heap.size) : Rs w 0 w.heap.size A l := fun hp => by
 obtain ⟨b, off, e, hb, hc⟩ := h hp
 refine ⟨b, off, e, Nat.zero_le _, hb, fun j hj => ?_⟩
 obtain ⟨A', c', h0, h1, h2, h3⟩ := hc j hj
 exact ⟨A', c', h0, h1, h2.more hB, h3⟩
def GrowR (f : Rc → Bool) (B n : Nat) (R : List Rc) (U : World) (v q : Value) (wr : World) : Prop :=
 ∃ (i x : Nat) (A1 : Option Addr) (c1 : Nat), q = .int .i64 i ∧ i ≤ n ∧ v = .slice A1 x c1 ∧ x ≤ i ∧ Hid (∃ ps, ps.map Prod.fst = (R.take i).filter f ∧ ps.length = x ∧ RowX U.heap.size B wr (.slice A1 x c1) ps ∧ Below U.heap.size U wr)
theorem GrowR.skip {f : Rc → Bool} {B n i x c1 : Nat} {R : List Rc} {U wr wr' : World} {A1 : Option Addr} {r : Rc} (h : ∃ ps, ps.map Prod.fst = (R.take i).filter f ∧ ps.length = x ∧ RowX U.heap.size B wr (.slice A1 x c1) ps ∧ Below U.heap.size U wr) (hi : i < n) (hx : x ≤ i) (hR : R.length = n) (hr : R.getD i r0 = r) (hf : f r = false) (hb : Below wr.heap.size wr wr') (hB : B ≤ wr.heap.size) : GrowR f B n R U (.slice A1 x c1) (.int .i64 ((i : Int) + 1)) wr' := by
 obtain ⟨ps, h1, h2, h3, h4⟩ := h
 refine ⟨i + 1, x, A1, c1, by push_cast; rfl, by omega, rfl, by omega, Lib.hid ⟨ps, ?_, h2, RowX.keepB h3 hb hB, h4.trans (hb.mono h4.size)⟩⟩
 rw [filter_take f (by omega) hr, hf, h1]
 simp
theorem GrowR.more {f : Rc → Bool} {B n i x c1 : Nat} {R : List Rc} {U wr W : World} {A1 A4 : Option Addr} {c4 ml : Nat} {key : Nm} {lv : List Vr} (h : ∃ ps, ps.map Prod.fst = (R.take i).filter f ∧ ps.length = x ∧ RowX U.heap.size B wr (.slice A1 x c1) ps ∧ Below U.heap.size U wr) (hi : i < n) (hx : x ≤ i) (hR : R.length = n) (hr : R.getD i r0 = (key, lv)) (hf : f (key, lv) = true) (hb : Below wr.heap.size wr W) (hB : B ≤ U.heap.size) (hml : lv.length = ml) (hv : Vs W 0 B A4 lv) (hz : ml ≤ c4 ∧ ml ≤ 140737488355328 ∧ key.size ≤ 140737488355328) :
  ∃ ps, ps.length = x ∧ W.ownsRow U.heap.size 53 2 (.slice A1 x c1) x (rcs ps) ∧ U.heap.size ≤ W.heap.size ∧ ∀ (w4 : World) (A5 : Option Addr) (c5 : Nat), w4.ownsRow U.heap.size 53 2 (.slice A5 (x + 1) c5) (x + 1) (rcs (ps ++ [((key, lv), A4, c4)])) → W.grownBy w4 (Value.slice A1 x c1).ownBlock → GrowR f B n R U (.slice A5 (x + 1) c5) (.int .i64 ((i : Int) + 1)) w4 := by
 obtain ⟨ps, h1, h2, h3, h4⟩ := h
 have hUW := h4.trans (hb.mono h4.size)
 have hrow := RowX.keepB h3 hb (Nat.le_trans hB h4.size)
 have hro := hrow.1
 rw [h2] at hro
 refine ⟨ps, h2, hro, hUW.size, fun w4 A5 c5 o4 g4 => ?_⟩
 have hp := RowX.put (key := key) (lv := lv) (ml := ml) hrow h2 hB hUW.size hUW hml hv hz o4 g4
 refine ⟨i + 1, x + 1, A5, c5, by push_cast; rfl, by omega, rfl, by omega, Lib.hid ⟨_, ?_, by simp [h2], hp.1, hp.2⟩⟩
 rw [filter_take f (by omega) hr, hf, List.map_append, h1]
 simp
end Mend
end Go.Proofs.YtekhaejhmlebbaaGreat

/-
 mend.Give (layer 14).
-/
namespace Go.Proofs.YtekhaejhmlebbaaGreat
namespace Mend
open Go.RowKit Vers Num Ring Disk Blk Tree
open Go.Proofs.YtekhaejhmlebbaaGreat.Code hiding Bn
attribute [local go_sem ↓] Go.wp_at_zero Go.wp_at_succ
theorem give_no {l l' : List Rc} {p : List Int} (h : ¬ (okL l ∧ okL l')) {V w : World} (hb : Below V.heap.size V w) : RecsT (giveR l p l') V (.returned (.slice none 0 0)) w := ⟨none, 0, 0, rfl, Lib.hid (by unfold giveR; rw [if_neg h]; exact ⟨rfl, Nat.le_refl _, rs_nil⟩), hb⟩
set_option maxRecDepth 100000 in
set_option maxHeartbeats 4000000 in
theorem give_any (A A' Ap : Option Addr) (c c' cp n n' np : Nat) (l l' : List Rc) (p : List Int) (hn : l.length = n) (hn' : l'.length = n') (hnp : p.length = np) (hbig : n ≤ 3518437208780) (hbig' : n' ≤ 3518437208780) (hbp : np ≤ 140737488355328) (V : World) (hr : Rs V 0 V.heap.size A l) (hr' : Rs V 0 V.heap.size A' l') (hp : Ns .i64 V V.heap.size Ap p) :
  Calls Tryz.prog 21 #[.slice A n c, .slice Ap np cp, .slice A' n' c'] V (RecsT (giveR l p l') V) := by
 obtain ⟨i0, hi, hz0, hz1, hz2⟩ := info_parts info_rec'
 by_cases hok : okL l
 ·have H1 := Lib.hid (on_new (Below.refl V.heap.size V) A c n l hn (by omega) hr hok)
  have HP := Lib.hid (And.intro hn (And.intro hn' (And.intro hnp (And.intro hp (And.intro (rs_rb hr') hok)))))
  clear hn hn' hnp hp hr hr' hok
  go_enter Tryz.func21, Tryz.ntmps21
  go_wp2_with fail
  refine H1.out.mono ?_
  rintro e1 w1 ⟨tb, rfl, h1⟩
  have HT : Hid ((∃ F, On F V w1 tb (heldF l)) ∧ Below V.heap.size V w1) := Lib.hid (by obtain ⟨F, o, _, hb⟩ := h1.out; exact ⟨⟨F, o⟩, hb⟩)
  have H2 := Lib.hid (hold_any A' c' n' V.heap.size l' HP.out.2.1 (by omega) w1 HT.out.2.size (Rb.below HP.out.2.2.2.2.1 (Nat.le_refl _) HT.out.2))
  clear h1 H1
  unfold hd
  go_wp2_with fail
  refine H2.out.mono ?_
  rintro e2 w2 (⟨hok2, mb, D, rfl, h2, b2⟩ | ⟨hno, rfl, b2⟩)
  ·have HB := Lib.hid (And.intro hok2 (And.intro h2.out.1 (And.intro h2.out.2.1 (And.intro b2 HT.out.2))))
   have H3 : Hid (Calls Tryz.prog 43 #[.pointer (some ⟨tb, 0, none⟩), .slice Ap np cp] w2 (fun e w' => ∃ A n c ps, e = .returned (.slice A n c) ∧ Hid (ps.map Prod.fst = recsF (heldF l) p ∧ n = (recsF (heldF l) p).length ∧ n ≤ c ∧ Got w2.heap.size w' A ps) ∧ Below w2.heap.size w2 w')) := Lib.hid (by
    obtain ⟨F, o⟩ := HT.out.1
    have b12 := HT.out.2.trans (b2.mono HT.out.2.size)
    have hl := held_len l
    rw [HP.out.1] at hl
    refine ((o.below b2).recs (by omega) Ap cp np p HP.out.2.2.1 hbp ((HP.out.2.2.2.1.below b12).more b12.size)).mono ?_
    rintro e w' ⟨A, n, c, ps, rfl, hx⟩
    obtain ⟨p1, p2, p3, p4, p5, p6⟩ := hx.out
    exact ⟨A, n, c, ps, rfl, Lib.hid ⟨p1, p2, p3, p4⟩, p6⟩)
   clear H2 h2 b2 hok2
   go_wp2_with fail
   refine H3.out.mono ?_
   rintro e3 w3 ⟨A3, m3, c3, ps3, rfl, h3, b3⟩
   obtain ⟨R, hR⟩ : ∃ R, recsF (heldF l) p = R := ⟨_, rfl⟩
   rw [hR] at h3
   have hm3 : m3 ≤ 3518437208780 := by
    have h9 : (recsF (heldF l) p).length ≤ (heldF l).length := by
     unfold recsF
     split
     ·exact beneath_len _ _
     ·simp
    have := held_len l
    rw [hR, ← h3.out.2.1] at h9
    rw [HP.out.1] at this
    omega
   have hRb : Rb w3 w3.heap.size A3 R := by
    have h9 := h3.out.2.2.2.rs.less (Nat.zero_le _)
    rw [h3.out.1] at h9
    exact rs_rb h9
   have hGive : giveR l p l' = R.filter (lackR (heldF l')) := by
    unfold giveR
    rw [if_pos ⟨HP.out.2.2.2.2.2, HB.out.1⟩]
    unfold giveF
    rw [hR]
    rfl
   have hV1 := HT.out.2.size
   have b23 := HB.out.2.2.2.1.trans (b3.mono HB.out.2.2.2.1.size)
   have hmb := HB.out.2.1.lt
   have HMI := Lib.hid (And.intro (HB.out.2.1.same (b3.block mb hmb)) (And.intro (HB.out.2.2.1.keep (b3.mono (Nat.le_trans hV1 HB.out.2.2.2.1.size))) (Nat.le_trans hV1 (Nat.le_trans HB.out.2.2.2.1.size b3.size))))
   have HL3 := Lib.hid (And.intro h3.out.2.1.symm (And.intro hRb (And.intro hGive (HT.out.2.trans (b23.mono hV1)))))
   clear h3 b3 H3 hRb hGive HB HT hR b23 hV1 hmb
   go_wp2_with fail
   go_loopw [11, 34] (fun v q wr => GrowR (lackR (heldF l')) w3.heap.size m3 R w3 v q wr) (fun _ q _ => m3 - (intOf q).toNat)
   case atStart => exact ⟨0, 0, none, 0, rfl, by omega, rfl, Nat.le_refl _, Lib.hid ⟨[], rfl, rfl, rowX_nil _ _ _, Below.refl _ _⟩⟩
   case round =>
    obtain ⟨i, x, A1, c1, rfl, hi3, rfl, hx, hst⟩ := hrel
    have hbw : Below w3.heap.size w3 wr := by obtain ⟨_, _, _, _, h⟩ := hst.out; exact h
    by_cases hlt : i < m3
    ·have d1 : (0 : Int) ≤ (i : Int) := by omega
     have d2 : (i : Int) < (m3 : Int) := by omega
     obtain ⟨pb, off, A4, c4, rfl, _, hbB, k0, k1, k2, k3⟩ := HL3.out.2.1.at HL3.out.1 (Nat.le_refl _) hbw hlt rfl
     obtain ⟨r, hrr⟩ : ∃ r, R.getD i r0 = r := ⟨_, rfl⟩
     rw [hrr] at k0 k1 k2 k3
     obtain ⟨key, lv⟩ := r
     simp only at k0 k1 k2 k3
     obtain ⟨ml, hml⟩ : ∃ ml, lv.length = ml := ⟨_, rfl⟩
     rw [hml] at k1 k3
     obtain ⟨b, hb⟩ : ∃ b, lackR (heldF l') (key, lv) = b := ⟨_, rfl⟩
     obtain ⟨Y, hY⟩ : ∃ Y, wr.alloc (.cells #[.string key, .slice A4 ml c4] 53) = Y := ⟨_, rfl⟩
     obtain ⟨rb, hrb⟩ : ∃ rb, wr.heap.size = rb := ⟨_, rfl⟩
     have bY : Below wr.heap.size wr Y := by rw [← hY]; exact (Below.refl _ wr).alloc (Nat.le_refl _) _
     have BY : Blk.Bn rb 53 [.string key, .slice A4 ml c4] Y := by rw [← hY, ← hrb]; exact World.alloc_heap_new _ _
     have x0 := BY.cell 0
     have x1 := BY.cell 1
     simp only [List.getElem?_cons_zero, List.getElem?_cons_succ] at x0 x1
     have b3Y := hbw.trans (bY.mono hbw.size)
     have hVw := Nat.le_trans HMI.out.2.2 b3Y.size
     have hmiY := HMI.out.1.same (b3Y.block mb HMI.out.1.lt)
     have hhY := HMI.out.2.1.keep (b3Y.mono HMI.out.2.2)
     obtain ⟨A6, c6, hg1, hg2, hg3, hg4⟩ := hold_get hhY key
     have hlook := hm_look hmiY key (by have := k3.2.2; unfold Tree.okN maxLen; omega)
     rw [hg1, last_get] at hlook
     rw [last_get] at hg2 hg3 hg4
     obtain ⟨m6, hm6⟩ : ∃ m6, (getF (heldF l') key).length = m6 := ⟨_, rfl⟩
     rw [hm6] at hlook hg3 hg4
     have HLk : Hid (Calls Tryz.prog 56 #[.slice A6 m6 c6, .slice A4 ml c4] Y (fun e w6 => e = .returned (.bool b) ∧ w6.cell? ⟨rb, 0, none⟩ = some (.string key) ∧ w6.cell? ⟨rb, 1, none⟩ = some (.slice A4 ml c4) ∧ Hid (Below wr.heap.size wr w6))) := Lib.hid (by
      refine (lacks_any A6 A4 c6 c4 m6 ml _ lv hm6 hml hg3 k3.1 Y (hg2.more hVw) ((k2.below (bY.mono hbw.size)).more b3Y.size) (by omega) k3.2.1).mono ?_
      rintro e w6 ⟨rfl, b6⟩
      have hB6 := BY.same (b6.block rb BY.lt)
      have y0 := hB6.cell 0
      have y1 := hB6.cell 1
      simp only [List.getElem?_cons_zero, List.getElem?_cons_succ] at y0 y1
      exact ⟨by rw [← hb]; rfl, y0, y1, Lib.hid (bY.trans (b6.mono bY.size))⟩)
     have HST := Lib.hid (And.intro hst.out (And.intro k2 (And.intro hml (And.intro k3 (And.intro hrr (And.intro hb hbw.size))))))
     have l1 : (x + 1) * 40 ≤ 140737488355328 := by omega
     clear hst k2 hml k3 hrr hb hbw bY BY b3Y hVw hmiY hhY hg1 hg2 hg3 hg4 hm6
     go_wp2_with fail
     refine HLk.out.mono ?_
     rintro e6 w6 ⟨rfl, y0, y1, HB6⟩
     clear x0 x1 hlook HLk hY
     cases b
     ·have HF := Lib.hid (GrowR.skip HST.out.1 hlt hx HL3.out.1 HST.out.2.2.2.2.1 HST.out.2.2.2.2.2.1 HB6.out HST.out.2.2.2.2.2.2)
      go_wp2_with fail
      go_roundw
      case rel => exact HF.out
      case measure => simp only [intOf]; omega
     ·obtain ⟨ps6, g1, g2, g3, g4⟩ := GrowR.more HST.out.1 hlt hx HL3.out.1 HST.out.2.2.2.2.1 HST.out.2.2.2.2.2.1 HB6.out (Nat.le_refl _) HST.out.2.2.1 (HST.out.2.1.below (HB6.out.mono HST.out.2.2.2.2.2.2)) HST.out.2.2.2.1
      have HG := Lib.hid g4
      clear g1 g4
      go_wp2_with (at_builtin; refine wpList_append_r _ rfl (.tmp 45) (.tmp 47) 22 rfl w3.heap.size 53 i0 _ 40 Tryz.underlying22 hi hz0 hz1 hz2 rfl _ x ps6 rfl g2 ((key, lv), A4, c4) ml HST.out.2.2.1 1 rfl l1 (by omega) g3 ?_; intro v7 w7 o7 gg7 at7; obtain ⟨A7, c7, rfl⟩ := own_form o7)
      have HF := Lib.hid (HG.out w7 A7 c7 o7 gg7)
      clear o7 gg7 at7 g2
      go_roundw
      case rel => exact HF.out
      case measure => simp only [intOf]; omega
    ·have him : i = m3 := by omega
     subst him
     have hfull : R.take i = R := List.take_of_length_le (by have := HL3.out.1; omega)
     have HE : Hid (RecsT (giveR l p l') V (.returned (.slice A1 x c1)) wr) := Lib.hid (by
      obtain ⟨ps, h1, h2, h9, h4⟩ := hst.out
      rw [hfull] at h1
      have hrs := h9.rb
      rw [h1, ← HL3.out.2.2.1] at hrs
      have ho := h9.1
      rw [h2] at ho
      exact ⟨A1, x, c1, rfl, Lib.hid ⟨by rw [HL3.out.2.2.1, ← h1, List.length_map, h2], (own_low ho).1, rb_rs hrs h4.size⟩, HL3.out.2.2.2.trans (h4.mono HL3.out.2.2.2.size)⟩)
     clear hst hfull hbw
     go_wp2_with fail
     go_ret
     exact HE.out
  ·have HE := Lib.hid (give_no (p := p) (fun h => hno h.2) (HT.out.2.trans (b2.mono HT.out.2.size)) (l := l) (l' := l'))
   clear H2 b2 hno
   go_wp2_with fail
   go_ret
   exact HE.out
 ·have H1 := Lib.hid (no_new A c n l hn (by omega) hr hok)
  have HP := Lib.hid (And.intro hn' (And.intro (rs_rb hr') hok))
  clear hn hn' hnp hp hr hr' hok
  go_enter Tryz.func21, Tryz.ntmps21
  go_wp2_with fail
  refine H1.out.mono ?_
  rintro e1 w1 ⟨rfl, b1⟩
  have H2 := Lib.hid (hold_any A' c' n' V.heap.size l' HP.out.1 (by omega) w1 b1.size (Rb.below HP.out.2.1 (Nat.le_refl _) b1))
  have HE : Hid (∀ w2, Below w1.heap.size w1 w2 → RecsT (giveR l p l') V (.returned (.slice none 0 0)) w2) := Lib.hid fun w2 b2 => give_no (fun h => HP.out.2.2 h.1) (b1.trans (b2.mono b1.size))
  clear H1 b1
  go_wp2_with fail
  refine H2.out.mono ?_
  rintro e2 w2 (⟨_, mb, D, rfl, _, b2⟩ | ⟨_, rfl, b2⟩)
  ·have HF := Lib.hid (HE.out w2 b2)
   clear b2 H2
   go_wp2_with fail
   go_ret
   exact HF.out
  ·have HF := Lib.hid (HE.out w2 b2)
   clear b2 H2
   go_wp2_with fail
   go_ret
   exact HF.out
end Mend
end Go.Proofs.YtekhaejhmlebbaaGreat
