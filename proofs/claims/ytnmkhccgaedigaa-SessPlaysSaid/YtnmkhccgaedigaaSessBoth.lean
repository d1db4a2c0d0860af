/-
  The program's sessions and the document's, side by side.
-/
import Derived.Test.YtnmkhccgaedigaaSessOps
namespace Go.Proofs.Ytnmkhccgaedigaa
namespace Sess
open Go.RowKit Blk Go.Maps
/-- Both in one world, and what is held beside them. -/
def St (X : Nat → Prop) (w V : World) (sb rb : Nat) (N : Int) (L : List Sn) (m : Nat) (M : List Sn) : Prop :=
  ∃ F G, SI F V sb N L m ∧ RI G V rb N M ∧ Below w.heap.size w V ∧ (∀ j, F j → w.heap.size ≤ j) ∧ (∀ j, G j → w.heap.size ≤ j) ∧ (∀ j, F j → ¬ G j) ∧ ∀ j, X j → j < V.heap.size ∧ ¬ F j ∧ ¬ G j
def Kept (X : Nat → Prop) (V V' : World) : Prop := ∀ j, X j → V'.heap[j]? = V.heap[j]?
/-- The block of a row that is not empty. -/
def At (n : Nat) (A : Option Addr) (j : Nat) : Prop := 0 < n ∧ ∃ a, A = some a ∧ a.block = j
section
variable {X F F' G G' : Nat → Prop} {w V V' : World} {sb rb m m' : Nat} {N : Int} {L L' M M' : List Sn}
theorem St.inv (h : St X w V sb rb N L m M) : InvS N L := by
  obtain ⟨F, G, ⟨_, _, _, _, _, _, _, h⟩, _⟩ := h
  exact h
theorem St.old (h : St X w V sb rb N L m M) : Below w.heap.size w V := by
  obtain ⟨F, G, _, _, h, _⟩ := h
  exact h
theorem St.below (h : St X w V sb rb N L m M) (hb : Below V.heap.size V V') : St X w V' sb rb N L m M := by
  obtain ⟨F, G, h1, h2, h3, h4, h5, h6, h7⟩ := h
  exact ⟨F, G, h1.below hb, h2.below hb, h3.trans (hb.mono h3.size), h4, h5, h6, fun j hj => ⟨Nat.lt_of_lt_of_le (h7 j hj).1 hb.size, (h7 j hj).2⟩⟩
theorem St.less {Y : Nat → Prop} (h : St X w V sb rb N L m M) (hY : ∀ j, Y j → X j) : St Y w V sb rb N L m M := by
  obtain ⟨F, G, h1, h2, h3, h4, h5, h6, h7⟩ := h
  exact ⟨F, G, h1, h2, h3, h4, h5, h6, fun j hj => h7 j (hY j hj)⟩
/-- A block that is new is held too. -/
theorem St.hold {B : Nat} (h : St X w V sb rb N L m M) (hb : Below V.heap.size V V') (h1 : V.heap.size ≤ B) (h2 : B < V'.heap.size) : St (fun j => X j ∨ j = B) w V' sb rb N L m M := by
  obtain ⟨F, G, g1, g2, g3, g4, g5, g6, g7⟩ := h
  refine ⟨F, G, g1.below hb, g2.below hb, g3.trans (hb.mono g3.size), g4, g5, g6, fun j hj => ?_⟩
  rcases hj with hj | rfl
  · exact ⟨Nat.lt_of_lt_of_le (g7 j hj).1 hb.size, (g7 j hj).2⟩
  · exact ⟨h2, fun hf => by have := g1.lt _ hf; omega, fun hg => by have := g2.lt _ hg; omega⟩
theorem stepF (_h0 : SI F V sb N L m) (hR : RI G V rb N M) (hb : Below w.heap.size w V) (hf : ∀ j, F j → w.heap.size ≤ j) (hg : ∀ j, G j → w.heap.size ≤ j) (hd : ∀ j, F j → ¬ G j) (hX : ∀ j, X j → j < V.heap.size ∧ ¬ F j ∧ ¬ G j)
    (h1 : SI F' V' sb N L' m') (h2 : Stp F V F' V') : St X w V' sb rb N L' m' M ∧ Kept X V V' := by
  have ho := h2.old hb hf
  refine ⟨⟨F', G, h1, hR.chg h2.1 fun k hk hF => hd k hF hk, ho.1, ho.2, hg, fun j hj hG => ?_, fun j hj => ⟨Nat.lt_of_lt_of_le (hX j hj).1 h2.1.size, fun hF => ?_, (hX j hj).2.2⟩⟩, fun j hj => h2.1.block j (hX j hj).1 (hX j hj).2.1⟩
  · rcases h2.2 j hj with e | e
    · exact hd j e hG
    · have := hR.lt j hG
      omega
  · rcases h2.2 j hF with e | e
    · exact (hX j hj).2.1 e
    · have := (hX j hj).1
      omega
theorem stepG (h0 : SI F V sb N L m) (_hR : RI G V rb N M) (hb : Below w.heap.size w V) (hf : ∀ j, F j → w.heap.size ≤ j) (hg : ∀ j, G j → w.heap.size ≤ j) (hd : ∀ j, F j → ¬ G j) (hX : ∀ j, X j → j < V.heap.size ∧ ¬ F j ∧ ¬ G j)
    (h1 : RI G' V' rb N M') (h2 : Stp G V G' V') : St X w V' sb rb N L m M' ∧ Kept X V V' := by
  have ho := h2.old hb hg
  refine ⟨⟨F, G', h0.chg h2.1 hd, h1, ho.1, hf, ho.2, fun j hj hG => ?_, fun j hj => ⟨Nat.lt_of_lt_of_le (hX j hj).1 h2.1.size, (hX j hj).2.1, fun hG => ?_⟩⟩, fun j hj => h2.1.block j (hX j hj).1 (hX j hj).2.2⟩
  · rcases h2.2 j hG with e | e
    · exact hd j hj e
    · have := h0.lt j hj
      omega
  · rcases h2.2 j hG with e | e
    · exact (hX j hj).2.2 e
    · have := (hX j hj).1
      omega
theorem St.open (h : St X w V sb rb N L m M) (hn : L.length ≤ 10000000000000) (site : Int) {num err : Int} (hF : openF N L site = (L', num, err)) :
    Calls Try.prog 8 #[hd sb, .int .i64 site] V (fun e w' => e = .returned (.tuple #[.int .i64 num, .int .i64 err]) ∧ Hid (St X w w' sb rb N L' m M ∧ Kept X V w')) := by
  obtain ⟨F, G, h1, h2, h3, h4, h5, h6, h7⟩ := h
  refine (open_at h1 hn site hF).mono fun e w' ⟨he, F', hh⟩ => ⟨he, Lib.hid (stepF h1 h2 h3 h4 h5 h6 h7 hh.out.1 hh.out.2)⟩
theorem St.ropen (h : St X w V sb rb N L m M) (hn : M.length ≤ 3000000000000) (site : Int) {num err : Int} (hF : openF N M site = (M', num, err)) :
    Calls Try.prog 9 #[hd rb, .int .i64 site] V (fun e w' => e = .returned (.tuple #[.int .i64 num, .int .i64 err]) ∧ Hid (St X w w' sb rb N L m M' ∧ Kept X V w')) := by
  obtain ⟨F, G, h1, h2, h3, h4, h5, h6, h7⟩ := h
  refine (ropen_any h2 hn site).mono fun e w' ⟨he, G', hh, hs⟩ => ?_
  rw [hF] at he hh
  exact ⟨he, Lib.hid (stepG h1 h2 h3 h4 h5 h6 h7 hh hs)⟩
theorem St.go (h : St X w V sb rb N L m M) (hn : L.length ≤ 10000000000000) (k site : Int) {err : Int} (hF : goF N L k site = (L', err)) :
    Calls Try.prog 14 #[hd sb, .int .i64 k, .int .i64 site] V (fun e w' => e = .returned (.int .i64 err) ∧ Hid (St X w w' sb rb N L' m M ∧ Kept X V w')) := by
  obtain ⟨F, G, h1, h2, h3, h4, h5, h6, h7⟩ := h
  refine (go_at h1 hn k site hF).mono fun e w' ⟨he, hh⟩ => ⟨he, Lib.hid (stepF h1 h2 h3 h4 h5 h6 h7 hh.out.1 hh.out.2)⟩
theorem St.rgo (h : St X w V sb rb N L m M) (hn : M.length ≤ 10000000000000) (hI : InvS N M) (k site : Int) {err : Int} (hF : goF N M k site = (M', err)) :
    Calls Try.prog 15 #[hd rb, .int .i64 k, .int .i64 site] V (fun e w' => e = .returned (.int .i64 err) ∧ Hid (St X w w' sb rb N L m M' ∧ Kept X V w')) := by
  obtain ⟨F, G, h1, h2, h3, h4, h5, h6, h7⟩ := h
  refine (rgo_any h2 hn hI k site).mono fun e w' ⟨he, hh, hs⟩ => ?_
  rw [hF] at he hh
  exact ⟨he, Lib.hid (stepG h1 h2 h3 h4 h5 h6 h7 hh hs)⟩
/-- What an argument's slice leads to is none of theirs. -/
theorem argAt {A : Option Addr} {t : List Int} {B : Nat} (hn : Ns .u8 w B A t) (hF : ∀ j, F j → B ≤ j) (hp : 0 < t.length) : ∀ a, A = some a → ¬ F a.block := fun a ha hf => by
  obtain ⟨b, off, e, hb, _⟩ := hn hp
  rw [e] at ha
  injection ha with ha
  subst ha
  have := hF _ hf
  simp only at this
  omega
theorem St.end (h : St X w V sb rb N L m M) (hn : L.length ≤ 10000000000000) (op : Int) (hop : i64In op) (x : Tk) (tl : Nat) (htl : x.1.length = tl) (ht : OkT x.1) (hr : Ns .u8 w w.heap.size x.2.1 x.1) {num : Int} {ok : Bool} (hF : endF L op x.1 = (L', num, ok)) :
    Calls Try.prog 12 #[hd sb, .int .i64 op, .slice x.2.1 tl x.2.2] V (fun e w' => e = .returned (.tuple #[.int .i64 num, .bool ok]) ∧ Hid (St X w w' sb rb N L' m M ∧ Kept X V w')) := by
  obtain ⟨F, G, h1, h2, h3, h4, h5, h6, h7⟩ := h
  refine (end_arg ⟨h1, h3, h4⟩ hn op hop x.2.1 x.2.2 tl x.1 htl ht hr hF).mono fun e w' ⟨he, F', hh⟩ => ⟨he, Lib.hid (stepF h1 h2 h3 h4 h5 h6 h7 hh.out.1 hh.out.2)⟩
theorem St.rend (h : St X w V sb rb N L m M) (hn : M.length ≤ 10000000000000) (hI : InvS N M) (op : Int) (x : Tk) (tl : Nat) (htl : x.1.length = tl) (ht : OkT x.1) (hr : Ns .u8 w w.heap.size x.2.1 x.1) {num : Int} {ok : Bool} (hF : endF M op x.1 = (M', num, ok)) :
    Calls Try.prog 13 #[hd rb, .int .i64 op, .slice x.2.1 tl x.2.2] V (fun e w' => e = .returned (.tuple #[.int .i64 num, .bool ok]) ∧ Hid (St X w w' sb rb N L m M' ∧ Kept X V w')) := by
  obtain ⟨F, G, h1, h2, h3, h4, h5, h6, h7⟩ := h
  refine (rend_any h2 hn hI op x.2.1 x.2.2 tl x.1 htl ht ((hr.below h3).more h3.size) (fun hp => argAt hr h5 hp) hF).mono fun e w' ⟨he, G', hh⟩ => ⟨he, Lib.hid (stepG h1 h2 h3 h4 h5 h6 h7 hh.out.1 hh.out.2)⟩
/-- The blocks of a row that was made. -/
theorem at_own {k : IntKind} {W : World} {B : Nat} {e : TypeId} {A : Option Addr} {c n : Nat} {zs : List Int} (h : W.ownsRow B e 1 (.slice A n c) n (nums k zs)) (j : Nat) (hj : At n A j) : B ≤ j ∧ j < W.heap.size := by
  obtain ⟨hp, a, ha, rfl⟩ := hj
  obtain ⟨g, cap, hv, _, hg⟩ := h.form hp
  injection hv with hA _ hcap
  rw [hA] at ha
  injection ha with ha
  subst ha
  exact h.lt g (by rw [hA]; rfl)
theorem St.begin (h : St X w V sb rb N L m M) (hn : L.length ≤ 10000000000000) (hm : m ≤ 1000000000000000) (k op : Int) (hop : i64In op) {site err : Int} {tok : List Int} (hF : beginF L k op = (L', site, tok, err)) (tl : Nat) (htl : tok.length = tl) :
    Calls Try.prog 10 #[hd sb, .int .i64 k, .int .i64 op] V (fun e w' => ∃ A1 c1 m1, e = .returned (.tuple #[.int .i64 site, .slice A1 tl c1, .int .i64 err]) ∧ m1 ≤ m + 1 ∧ Hid (St (fun j => X j ∨ At tl A1 j) w w' sb rb N L' m1 M ∧ Kept X V w' ∧ Ns .u8 w' w'.heap.size A1 tok)) := by
  obtain ⟨F, G, h1, h2, h3, h4, h5, h6, h7⟩ := h
  refine (begin_at h1 hn hm k op hop hF tl htl).mono fun e w' ⟨A1, c1, m1, F', B, he, hm1, hh⟩ => ⟨A1, c1, m1, he, hm1, ?_⟩
  obtain ⟨hS, hs, hB, hB2, ho⟩ := hh.out
  obtain ⟨⟨F2, G2, _⟩, hk⟩ := stepF h1 h2 h3 h4 h5 h6 h7 hS hs
  have hold := hs.old h3 h4
  refine Lib.hid ⟨⟨F', G, hS, h2.chg hs.1 fun k hk hF => h6 k hF hk, hold.1, hold.2, h5, fun j hj hG => ?_, fun j hj => ?_⟩, hk, own_ns htl ho (Below.refl _ _)⟩
  · rcases hs.2 j hj with e | e
    · exact h6 j e hG
    · have := h2.lt j hG
      omega
  · rcases hj with hj | hj
    · refine ⟨Nat.lt_of_lt_of_le (h7 j hj).1 hs.1.size, fun hF => ?_, (h7 j hj).2.2⟩
      rcases hs.2 j hF with e | e
      · exact (h7 j hj).2.1 e
      · have := (h7 j hj).1
        omega
    · have ha := at_own ho j hj
      exact ⟨ha.2, fun hF => by have := hB j hF; omega, fun hG => by have := h2.lt j hG; omega⟩
theorem St.rbegin (h : St X w V sb rb N L m M) (hn : M.length ≤ 10000000000000) (hI : InvS N M) (k op : Int) {site err : Int} {tok : List Int} (hF : beginF M k op = (M', site, tok, err)) (tl : Nat) (htl : tok.length = tl) :
    Calls Try.prog 11 #[hd rb, .int .i64 k, .int .i64 op] V (fun e w' => ∃ A1 c1, e = .returned (.tuple #[.int .i64 site, .slice A1 tl c1, .int .i64 err]) ∧ Hid (St X w w' sb rb N L m M' ∧ Kept X V w' ∧ Ns .u8 w' w'.heap.size A1 tok)) := by
  obtain ⟨F, G, h1, h2, h3, h4, h5, h6, h7⟩ := h
  refine (rbegin_any h2 hn hI k op hF).mono fun e w' ⟨A1, c1, he, hh⟩ => ⟨A1, c1, by rw [he, htl], ?_⟩
  obtain ⟨hR, hs, hN⟩ := hh.out
  have hst := stepG h1 h2 h3 h4 h5 h6 h7 hR hs
  exact Lib.hid ⟨hst.1, hst.2, hN⟩
theorem St.lost (h : St X w V sb rb N L m M) (hn : L.length ≤ 3000000000000) (site : Int) (n : Nat) (hO : (lostO L site).length = n) :
    Calls Try.prog 17 #[hd sb, .int .i64 site] V (fun e w' => ∃ A1 c1, e = .returned (.slice A1 n c1) ∧ Hid (St (fun j => X j ∨ At n A1 j) w w' sb rb N (lostF L site) m M ∧ Kept X V w' ∧ Ns .i64 w' w'.heap.size A1 (lostO L site))) := by
  obtain ⟨F, G, h1, h2, h3, h4, h5, h6, h7⟩ := h
  refine (lost_any h1 hn site).mono fun e w' ⟨⟨A1, c1, he, ho⟩, hS, hs⟩ => ⟨A1, c1, by rw [he, hO], ?_⟩
  have ho := ho.out
  rw [hO] at ho
  have hk := (stepF h1 h2 h3 h4 h5 h6 h7 hS hs).2
  have hold := hs.old h3 h4
  refine Lib.hid ⟨⟨F, G, hS, h2.chg hs.1 fun k hk hF => h6 k hF hk, hold.1, h4, h5, h6, fun j hj => ?_⟩, hk, own_ns hO ho (Below.refl _ _)⟩
  rcases hj with hj | hj
  · exact ⟨Nat.lt_of_lt_of_le (h7 j hj).1 hs.1.size, (h7 j hj).2⟩
  · have ha := at_own ho j hj
    exact ⟨ha.2, fun hF => by have := h1.lt j hF; omega, fun hG => by have := h2.lt j hG; omega⟩
theorem St.rlost (h : St X w V sb rb N L m M) (hn : M.length ≤ 3000000000000) (hI : InvS N M) (site : Int) (n : Nat) (hO : (lostO M site).length = n) :
    Calls Try.prog 18 #[hd rb, .int .i64 site] V (fun e w' => ∃ A1 c1, e = .returned (.slice A1 n c1) ∧ Hid (St X w w' sb rb N L m (lostF M site) ∧ Kept X V w' ∧ Ns .i64 w' w'.heap.size A1 (lostO M site))) := by
  obtain ⟨F, G, h1, h2, h3, h4, h5, h6, h7⟩ := h
  refine (rlost_any h2 hn hI site).mono fun e w' ⟨⟨A1, c1, he, ho⟩, hS, hs⟩ => ⟨A1, c1, by rw [he, hO], ?_⟩
  have ho := ho.out
  rw [hO] at ho
  have hst := stepG h1 h2 h3 h4 h5 h6 h7 hS hs
  exact Lib.hid ⟨hst.1, hst.2, own_ns hO ho (Below.refl _ _)⟩
/-- A row that is held is read behind a call. -/
theorem Kept.ns {k : IntKind} {Y : Nat → Prop} {A : Option Addr} {zs : List Int} {n : Nat} (hk : Kept Y V V') (hn : zs.length = n) (hY : ∀ j, At n A j → Y j) (h : Ns k V V.heap.size A zs) (hs : V.heap.size ≤ V'.heap.size) : Ns k V' V'.heap.size A zs := fun hp =>
  ns_same h (fun a ha => hk a.block (hY _ ⟨by omega, a, ha, rfl⟩)) hs hp
theorem Kept.bn {Y : Nat → Prop} {B : Nat} {t : TypeId} {cs : List Value} (hk : Kept Y V V') (hY : Y B) (h : Bn B t cs V) : Bn B t cs V' := h.same (hk B hY)
end
end Sess
end Go.Proofs.Ytnmkhccgaedigaa
