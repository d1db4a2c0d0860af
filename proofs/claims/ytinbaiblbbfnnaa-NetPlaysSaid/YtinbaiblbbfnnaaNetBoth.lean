/-
  The program's network and the document's, side by side (layer 8).
-/
import Derived.Test.YtinbaiblbbfnnaaNetDocPart
import Derived.Test.YtinbaiblbbfnnaaNetDocCopyOp
import Derived.Test.YtinbaiblbbfnnaaNetTakes
import Derived.Test.YtinbaiblbbfnnaaNetTally
namespace Go.Proofs.Ytinbaiblbbfnnaa
namespace Net
open Go.RowKit Blk Go.Maps
/-- The packet in a place, if there is one. -/
def atP (P : List Pk) (i : Int) : Option Pk := if 0 ≤ i then P[i.toNat]? else none
theorem atP_none {P : List Pk} {i : Int} (h : atP P i = none) : ¬ (0 ≤ i ∧ i < P.length) := by
  rintro ⟨h1, h2⟩
  unfold atP at h
  rw [if_pos h1, List.getElem?_eq_none_iff] at h
  omega
theorem atP_some {P : List Pk} {i : Int} {p : Pk} (h : atP P i = some p) : ∃ j : Nat, i = (j : Int) ∧ P[j]? = some p := by
  unfold atP at h
  by_cases h1 : 0 ≤ i
  · rw [if_pos h1] at h
    exact ⟨i.toNat, by omega, h⟩
  · rw [if_neg h1] at h
    cases h
theorem at_map {l : List PE} {j : Nat} {p : Pk} (h : (l.map Prod.fst)[j]? = some p) : ∃ A c, l[j]? = some (p, A, c) := by
  rw [List.getElem?_map] at h
  obtain ⟨⟨q, A, c⟩, h1, h2⟩ := Option.map_eq_some_iff.1 h
  simp only at h2
  subst h2
  exact ⟨A, c, h1⟩
def sendL (P : List Pk) (p : Pk) : List Pk := if P.length < 4096 then P ++ [p] else P
def sendS (P : List Pk) (s : Int) : Int := if P.length < 4096 then IntKind.i64.wrap (s + 1) else s
def lookP (P : List Pk) (i : Int) : Pk × Bool := ((atP P i).getD p0, (atP P i).isSome)
def isCut (P : List Pk) (i : Int) (C : Ad → Ad → Bool) : Bool := (atP P i).any fun p => C p.1 p.2.1
def takeP (P : List Pk) (i : Int) (C : Ad → Ad → Bool) : Pk × Bool := if isCut P i C then (p0, false) else lookP P i
def goneP (P : List Pk) (i : Int) : List Pk := if (atP P i).isSome then P.eraseIdx i.toNat else P
def takeT (P : List Pk) (i : Int) (C : Ad → Ad → Bool) (t : Int) : Int := if (takeP P i C).2 then IntKind.i64.wrap (t + 1) else t
def takeU (P : List Pk) (i : Int) (C : Ad → Ad → Bool) (u : Int) : Int := if isCut P i C then IntKind.i64.wrap (u + 1) else u
def loseU (P : List Pk) (i : Int) (u : Int) : Int := if (atP P i).isSome then IntKind.i64.wrap (u + 1) else u
def copyOk (P : List Pk) (i : Int) : Bool := (atP P i).isSome && decide (P.length < 4096)
def copyL (P : List Pk) (i : Int) : List Pk := if copyOk P i then P ++ [(atP P i).getD p0] else P
def flipOk (P : List Pk) (i at_ : Int) : Bool := (atP P i).any fun p => decide (0 ≤ at_ ∧ at_ < p.2.2.length)
def flipL (P : List Pk) (i at_ x : Int) : List Pk := if flipOk P i at_ then P.set i.toNat (flipP ((atP P i).getD p0) at_.toNat (bits .xor .u8 (((atP P i).getD p0).2.2.getD at_.toNat 0) x)) else P
def partF (C : Ad → Ad → Bool) (a b : Ad) (cut : Bool) : Ad → Ad → Bool := if a = b then C else partC C a b cut 2
theorem cut_part {cs : List Ct} (h : NoSelf cs) (a b : Ad) (cut : Bool) : cutC (partL cs a b cut) = partF (cutC cs) a b cut := by
  unfold partF
  by_cases e : a = b
  · subst e
    rw [if_pos rfl, cut_part_same h]
  · rw [if_neg e, cut_part_diff cs e]
/-- Both in one world, and what is held beside them. -/
def Pr (X : Nat → Prop) (w V : World) (nb mb : Nat) (P : List Pk) (s t u : Int) (C : Ad → Ad → Bool) (m : Nat) (Q : List Pk) (s' t' u' : Int) (cs : List Ct) : Prop :=
  ∃ F G, NI F V nb P s t u C m ∧ (∃ A c n l B q k, RN G V mb A c n l B q k cs s' t' u' ∧ l.map Prod.fst = Q) ∧ Below w.heap.size w V ∧ (∀ j, F j → w.heap.size ≤ j) ∧ (∀ j, G j → w.heap.size ≤ j) ∧ (∀ j, F j → ¬ G j) ∧ ∀ j, X j → j < V.heap.size ∧ ¬ F j ∧ ¬ G j
def Kept (X : Nat → Prop) (V V' : World) : Prop := V.heap.size ≤ V'.heap.size ∧ ∀ j, X j → V'.heap[j]? = V.heap[j]?
theorem Kept.trans {X : Nat → Prop} {V V' V'' : World} (h : Kept X V V') (h' : Kept X V' V'') : Kept X V V'' := ⟨Nat.le_trans h.1 h'.1, fun j hj => (h'.2 j hj).trans (h.2 j hj)⟩
theorem Kept.less {X Y : Nat → Prop} {V V' : World} (h : Kept X V V') (hY : ∀ j, Y j → X j) : Kept Y V V' := ⟨h.1, fun j hj => h.2 j (hY j hj)⟩
section
variable {X Y F F' G G' : Nat → Prop} {w V V' : World} {nb mb m m' : Nat} {P P' Q Q' : List Pk} {s t u s' t' u' s'' t'' u'' : Int} {C C' : Ad → Ad → Bool} {cs cs' : List Ct}
theorem Pr.old (h : Pr X w V nb mb P s t u C m Q s' t' u' cs) : Below w.heap.size w V := by
  obtain ⟨F, G, _, _, h, _⟩ := h
  exact h
theorem Pr.below (h : Pr X w V nb mb P s t u C m Q s' t' u' cs) (hb : Below V.heap.size V V') : Pr X w V' nb mb P s t u C m Q s' t' u' cs := by
  obtain ⟨F, G, h1, ⟨A, c, n, l, B, q, k, h2, e⟩, h3, h4, h5, h6, h7⟩ := h
  exact ⟨F, G, h1.below hb, ⟨A, c, n, l, B, q, k, h2.below hb, e⟩, h3.trans (hb.mono h3.size), h4, h5, h6, fun j hj => ⟨Nat.lt_of_lt_of_le (h7 j hj).1 hb.size, (h7 j hj).2⟩⟩
theorem Pr.less (h : Pr X w V nb mb P s t u C m Q s' t' u' cs) (hY : ∀ j, Y j → X j) : Pr Y w V nb mb P s t u C m Q s' t' u' cs := by
  obtain ⟨F, G, h1, h2, h3, h4, h5, h6, h7⟩ := h
  exact ⟨F, G, h1, h2, h3, h4, h5, h6, fun j hj => h7 j (hY j hj)⟩
/-- What is new is held too. -/
theorem Pr.hold (h : Pr X w V nb mb P s t u C m Q s' t' u' cs) (hb : Below V.heap.size V V') : Pr (fun j => X j ∨ (V.heap.size ≤ j ∧ j < V'.heap.size)) w V' nb mb P s t u C m Q s' t' u' cs := by
  obtain ⟨F, G, g1, ⟨A, c, n, l, B, q, k, g2, e⟩, g3, g4, g5, g6, g7⟩ := h
  refine ⟨F, G, g1.below hb, ⟨A, c, n, l, B, q, k, g2.below hb, e⟩, g3.trans (hb.mono g3.size), g4, g5, g6, fun j hj => ?_⟩
  rcases hj with hj | hj
  · exact ⟨Nat.lt_of_lt_of_le (g7 j hj).1 hb.size, (g7 j hj).2⟩
  · exact ⟨hj.2, fun hf => by have := g1.lt _ hf; omega, fun hg => by have := g2.lt _ hg; omega⟩
theorem Pr.kept (h : Pr X w V nb mb P s t u C m Q s' t' u' cs) (hb : Below V.heap.size V V') : Pr X w V' nb mb P s t u C m Q s' t' u' cs ∧ Kept X V V' := ⟨h.below hb, hb.size, fun j hj => by
  obtain ⟨F, G, _, _, _, _, _, _, h7⟩ := h
  exact hb.block j (h7 j hj).1⟩
theorem stepF (hR : ∃ A c n l B q k, RN G V mb A c n l B q k cs s' t' u' ∧ l.map Prod.fst = Q) (hb : Below w.heap.size w V) (hf : ∀ j, F j → w.heap.size ≤ j) (hg : ∀ j, G j → w.heap.size ≤ j) (hd : ∀ j, F j → ¬ G j) (hX : ∀ j, X j → j < V.heap.size ∧ ¬ F j ∧ ¬ G j)
    (h1 : NI F' V' nb P' s t u C' m') (h2 : Stp F V F' V') : Pr X w V' nb mb P' s t u C' m' Q s' t' u' cs ∧ Kept X V V' := by
  have ho := h2.old hb hf
  obtain ⟨A, c, n, l, B, q, k, hR, e⟩ := hR
  refine ⟨⟨F', G, h1, ⟨A, c, n, l, B, q, k, hR.chg h2.1 fun k hk hF => hd k hF hk, e⟩, ho.1, ho.2, hg, fun j hj hG => ?_, fun j hj => ⟨Nat.lt_of_lt_of_le (hX j hj).1 h2.1.size, fun hF => ?_, (hX j hj).2.2⟩⟩, h2.1.size, fun j hj => h2.1.block j (hX j hj).1 (hX j hj).2.1⟩
  · rcases h2.2 j hj with e | e
    · exact hd j e hG
    · have := hR.lt j hG
      omega
  · rcases h2.2 j hF with e | e
    · exact (hX j hj).2.1 e
    · have := (hX j hj).1
      omega
theorem stepG (h0 : NI F V nb P s t u C m) (hb : Below w.heap.size w V) (hf : ∀ j, F j → w.heap.size ≤ j) (hg : ∀ j, G j → w.heap.size ≤ j) (hd : ∀ j, F j → ¬ G j) (hX : ∀ j, X j → j < V.heap.size ∧ ¬ F j ∧ ¬ G j)
    {A : Option Addr} {c n : Nat} {l : List PE} {B : Option Addr} {q k : Nat} (h1 : RN G' V' mb A c n l B q k cs' s'' t'' u'') (e : l.map Prod.fst = Q') (h2 : Stp G V G' V') : Pr X w V' nb mb P s t u C m Q' s'' t'' u'' cs' ∧ Kept X V V' := by
  have ho := h2.old hb hg
  refine ⟨⟨F, G', h0.chg h2.1 hd, ⟨A, c, n, l, B, q, k, h1, e⟩, ho.1, hf, ho.2, fun j hj hG => ?_, fun j hj => ⟨Nat.lt_of_lt_of_le (hX j hj).1 h2.1.size, (hX j hj).2.1, fun hG => ?_⟩⟩, h2.1.size, fun j hj => h2.1.block j (hX j hj).1 (hX j hj).2.2⟩
  · rcases h2.2 j hG with e | e
    · exact hd j hj e
    · have := h0.lt j hj
      omega
  · rcases h2.2 j hG with e | e
    · exact (hX j hj).2.2 e
    · have := (hX j hj).1
      omega
theorem Pr.send (h : Pr X w V nb mb P s t u C m Q s' t' u' cs) (a1 a2 b1 b2 : Int) (zs : List Int) (kz : Nat) (hk : zs.length = kz) (Ad : Option Addr) (cd : Nat) (hr : Ns .u8 V V.heap.size Ad zs) (hok : OkP ((a1, a2), (b1, b2), zs)) :
    Calls Try.prog 18 #[hd nb, .agg #[.int .i64 a1, .int .i64 a2, .int .i64 b1, .int .i64 b2, .slice Ad kz cd]] V (fun e w' => e = .returned (.bool (decide (P.length < 4096))) ∧ Hid (Pr X w w' nb mb (sendL P ((a1, a2), (b1, b2), zs)) (sendS P s) t u C m Q s' t' u' cs ∧ Kept X V w')) := by
  obtain ⟨F, G, h1, h2, h3, h4, h5, h6, h7⟩ := h
  unfold sendL sendS
  by_cases hf : P.length < 4096
  · rw [if_pos hf, if_pos hf, decide_eq_true hf]
    exact (send_more h1 hf a1 a2 b1 b2 zs kz hk Ad cd hr hok).mono fun e w' ⟨he, F', hh⟩ => ⟨he, Lib.hid (stepF h2 h3 h4 h5 h6 h7 hh.out.1 hh.out.2)⟩
  · rw [if_neg hf, if_neg hf, decide_eq_false hf]
    exact (send_full h1 (by omega) a1 a2 b1 b2 _ rfl).mono fun e w' ⟨he, hb⟩ => ⟨he, Lib.hid (Pr.kept (⟨F, G, h1, h2, h3, h4, h5, h6, h7⟩ : Pr X w V nb mb P s t u C m Q s' t' u' cs) hb)⟩
theorem Pr.rsend (h : Pr X w V nb mb P s t u C m Q s' t' u' cs) (hQ : Q.length ≤ 4096) (a1 a2 b1 b2 : Int) (zs : List Int) (kz : Nat) (hk : zs.length = kz) (Ad : Option Addr) (cd : Nat) (hr : Ns .u8 V V.heap.size Ad zs) (hok : OkP ((a1, a2), (b1, b2), zs)) :
    Calls Try.prog 24 #[hd mb, .agg #[.int .i64 a1, .int .i64 a2, .int .i64 b1, .int .i64 b2, .slice Ad kz cd]] V (fun e w' => e = .returned (.bool (decide (Q.length < 4096))) ∧ Hid (Pr X w w' nb mb P s t u C m (sendL Q ((a1, a2), (b1, b2), zs)) (sendS Q s') t' u' cs ∧ Kept X V w')) := by
  obtain ⟨F, G, h1, ⟨A, c, n, l, B, q, k, h2, e⟩, h3, h4, h5, h6, h7⟩ := h
  have hn : n = Q.length := by rw [← e, List.length_map, h2.2.1.1]
  unfold sendL sendS
  by_cases hf : Q.length < 4096
  · rw [if_pos hf, if_pos hf, decide_eq_true hf]
    refine (doc_send_more h2 (by omega) a1 a2 b1 b2 zs kz hk Ad cd hr hok).mono fun e' w' ⟨he, F', A', c', Ax, cx, hh⟩ => ⟨he, Lib.hid (stepG h1 h3 h4 h5 h6 h7 hh.out.1 (by rw [List.map_append, e]; rfl) hh.out.2)⟩
  · rw [if_neg hf, if_neg hf, decide_eq_false hf]
    exact (doc_send_full h2 (by omega) a1 a2 b1 b2 _).mono fun e' w' ⟨he, hb⟩ => ⟨he, Lib.hid (Pr.kept (⟨F, G, h1, ⟨A, c, n, l, B, q, k, h2, e⟩, h3, h4, h5, h6, h7⟩ : Pr X w V nb mb P s t u C m Q s' t' u' cs) hb)⟩
/-- What a packet that is told has. -/
def Told (w' : World) (a1 a2 b1 b2 : Int) (zs : List Int) (kz : Nat) (A : Option Addr) (r : Pk × Bool) (ok : Bool) : Prop := (((a1, a2), (b1, b2), zs), ok) = r ∧ zs.length = kz ∧ Ns .u8 w' w'.heap.size A zs
theorem told_zero {w' : World} : Told w' 0 0 0 0 [] 0 none (p0, false) false := ⟨rfl, rfl, Ns.nil _⟩
theorem Pr.look (h : Pr X w V nb mb P s t u C m Q s' t' u' cs) (i : Int) :
    Calls Try.prog 16 #[hd nb, .int .i64 i] V (fun e w' => ∃ (a1 a2 b1 b2 : Int) (zs : List Int) (kz : Nat) (A : Option Addr) (c : Nat) (ok : Bool), e = .returned (.tuple #[.agg #[.int .i64 a1, .int .i64 a2, .int .i64 b1, .int .i64 b2, .slice A kz c], .bool ok]) ∧ Hid (Told w' a1 a2 b1 b2 zs kz A (lookP P i) ok ∧ Pr (fun j => X j ∨ (Value.slice A kz c).ownBlock = some j) w w' nb mb P s t u C m Q s' t' u' cs ∧ Kept X V w')) := by
  obtain ⟨F, G, h1, h2, h3, h4, h5, h6, h7⟩ := h
  rcases hx : atP P i with _ | ⟨⟨a1, a2⟩, ⟨b1, b2⟩, zs⟩
  · have e0 : lookP P i = (p0, false) := by unfold lookP; rw [hx]; rfl
    rw [e0]
    exact (look_out h1 i (atP_none hx)).mono fun e w' ⟨he, hb⟩ => ⟨0, 0, 0, 0, [], 0, none, 0, false, he, Lib.hid ⟨told_zero, (Pr.kept (⟨F, G, h1, h2, h3, h4, h5, h6, h7⟩ : Pr X w V nb mb P s t u C m Q s' t' u' cs) hb).1.less (fun j hj => hj.elim id fun q => by cases q), (Pr.kept (⟨F, G, h1, h2, h3, h4, h5, h6, h7⟩ : Pr X w V nb mb P s t u C m Q s' t' u' cs) hb).2⟩⟩
  · have e0 : lookP P i = (((a1, a2), (b1, b2), zs), true) := by unfold lookP; rw [hx]; rfl
    rw [e0]
    obtain ⟨j, rfl, hj⟩ := atP_some hx
    refine (look_in h1 hj zs.length rfl).mono fun e w' ⟨A1, c1, he, hh⟩ => ⟨a1, a2, b1, b2, zs, zs.length, A1, c1, true, he, Lib.hid ⟨⟨rfl, rfl, own_ns (n := zs.length) (c := c1) hh.out.1⟩, ?_, ?_⟩⟩
    · have hb := hh.out.2
      exact (Pr.hold (⟨F, G, h1, h2, h3, h4, h5, h6, h7⟩ : Pr X w V nb mb P s t u C m Q s' t' u' cs) hb).less fun j hj => hj.imp id fun q => hh.out.1.lt j q
    · have hb := hh.out.2
      exact (Pr.kept (⟨F, G, h1, h2, h3, h4, h5, h6, h7⟩ : Pr X w V nb mb P s t u C m Q s' t' u' cs) hb).2
theorem Pr.take (h : Pr X w V nb mb P s t u C m Q s' t' u' cs) (i : Int) :
    Calls Try.prog 19 #[hd nb, .int .i64 i] V (fun e w' => ∃ (a1 a2 b1 b2 : Int) (zs : List Int) (kz : Nat) (A : Option Addr) (c : Nat) (ok : Bool), e = .returned (.tuple #[.agg #[.int .i64 a1, .int .i64 a2, .int .i64 b1, .int .i64 b2, .slice A kz c], .bool ok]) ∧ Hid (Told w' a1 a2 b1 b2 zs kz A (takeP P i C) ok ∧ Pr (fun j => X j ∨ (Value.slice A kz c).ownBlock = some j) w w' nb mb (goneP P i) s (takeT P i C t) (takeU P i C u) C m Q s' t' u' cs ∧ Kept X V w')) := by
  obtain ⟨F, G, h1, h2, h3, h4, h5, h6, h7⟩ := h
  rcases hx : atP P i with _ | ⟨⟨a1, a2⟩, ⟨b1, b2⟩, zs⟩
  · have e0 : isCut P i C = false := by unfold isCut; rw [hx]; rfl
    have e1 : takeP P i C = (p0, false) := by unfold takeP lookP; rw [e0, hx]; rfl
    have e2 : goneP P i = P := by unfold goneP; rw [hx]; rfl
    have e3 : takeT P i C t = t := by unfold takeT; rw [e1]; rfl
    have e4 : takeU P i C u = u := by unfold takeU; rw [e0]; rfl
    rw [e1, e2, e3, e4]
    exact (take_out h1 i (atP_none hx)).mono fun e w' ⟨he, hb⟩ => ⟨0, 0, 0, 0, [], 0, none, 0, false, he, Lib.hid ⟨told_zero, (Pr.kept (⟨F, G, h1, h2, h3, h4, h5, h6, h7⟩ : Pr X w V nb mb P s t u C m Q s' t' u' cs) hb).1.less (fun j hj => hj.elim id fun q => by cases q), (Pr.kept (⟨F, G, h1, h2, h3, h4, h5, h6, h7⟩ : Pr X w V nb mb P s t u C m Q s' t' u' cs) hb).2⟩⟩
  · obtain ⟨j, rfl, hj⟩ := atP_some hx
    have e0 : isCut P (j : Int) C = C (a1, a2) (b1, b2) := by unfold isCut; rw [hx]; rfl
    have e2 : goneP P (j : Int) = P.eraseIdx j := by unfold goneP; rw [hx]; rfl
    have el : lookP P (j : Int) = (((a1, a2), (b1, b2), zs), true) := by unfold lookP; rw [hx]; rfl
    refine (take_in h1 hj).mono fun e w' hh => ?_
    rcases hh with ⟨hc, he, F', hN, hS⟩ | ⟨hc, A1, c1, he, F', hN, hS, ho, hF, hFF⟩
    · have e1 : takeP P (j : Int) C = (p0, false) := by unfold takeP; rw [e0, hc]; rfl
      have e3 : takeT P (j : Int) C t = t := by unfold takeT; rw [e1]; rfl
      have e4 : takeU P (j : Int) C u = IntKind.i64.wrap (u + 1) := by unfold takeU; rw [e0, hc]; rfl
      rw [e1, e2, e3, e4]
      have hst := stepF h2 h3 h4 h5 h6 h7 hN hS
      exact ⟨0, 0, 0, 0, [], 0, none, 0, false, he, Lib.hid ⟨told_zero, hst.1.less (fun j hj => hj.elim id fun q => by cases q), hst.2⟩⟩
    · have e1 : takeP P (j : Int) C = (((a1, a2), (b1, b2), zs), true) := by unfold takeP; rw [e0, hc, el]; rfl
      have e3 : takeT P (j : Int) C t = IntKind.i64.wrap (t + 1) := by unfold takeT; rw [e1]; rfl
      have e4 : takeU P (j : Int) C u = u := by unfold takeU; rw [e0, hc]; rfl
      rw [e1, e2, e3, e4]
      have hst := stepF (X := fun j => X j) h2 h3 h4 h5 h6 h7 hN hS
      refine ⟨a1, a2, b1, b2, zs, zs.length, A1, c1, true, he, Lib.hid ⟨⟨rfl, rfl, own_ns (n := zs.length) (c := c1) ho⟩, ?_, hst.2⟩⟩
      obtain ⟨A, c, n, l, B, q, k, hR, e⟩ := h2
      have hold := hS.old h3 h4
      refine ⟨F', G, hN, ⟨A, c, n, l, B, q, k, hR.chg hS.1 fun k hk hF => h6 k hF hk, e⟩, hold.1, hold.2, h5, fun j hj => h6 j (hFF j hj), fun j hj => ?_⟩
      rcases hj with hj | hj
      · exact ⟨Nat.lt_of_lt_of_le (h7 j hj).1 hS.1.size, fun q => (h7 j hj).2.1 (hFF j q), (h7 j hj).2.2⟩
      · exact ⟨(ho.lt j hj).2, (hF j hj).2, h6 j (hF j hj).1⟩
theorem Pr.rlook (h : Pr X w V nb mb P s t u C m Q s' t' u' cs) (i : Int) :
    Calls Try.prog 30 #[hd mb, .int .i64 i] V (fun e w' => ∃ (a1 a2 b1 b2 : Int) (zs : List Int) (kz : Nat) (A : Option Addr) (c : Nat) (ok : Bool), e = .returned (.tuple #[.agg #[.int .i64 a1, .int .i64 a2, .int .i64 b1, .int .i64 b2, .slice A kz c], .bool ok]) ∧ Hid (Told w' a1 a2 b1 b2 zs kz A (lookP Q i) ok ∧ Pr X w w' nb mb P s t u C m Q s' t' u' cs ∧ Kept X V w')) := by
  obtain ⟨F, G, h1, ⟨A, c, n, l, B, q, k, h2, e⟩, h3, h4, h5, h6, h7⟩ := h
  have hn : n = Q.length := by rw [← e, List.length_map, h2.2.1.1]
  rcases hx : atP Q i with _ | ⟨⟨a1, a2⟩, ⟨b1, b2⟩, zs⟩
  · have e0 : lookP Q i = (p0, false) := by unfold lookP; rw [hx]; rfl
    rw [e0]
    have hi := atP_none hx
    rw [← hn] at hi
    exact (doc_look_out h2 i hi).mono fun e' w' ⟨he, hb⟩ => ⟨0, 0, 0, 0, [], 0, none, 0, false, he, Lib.hid ⟨told_zero, (Pr.kept (⟨F, G, h1, ⟨A, c, n, l, B, q, k, h2, e⟩, h3, h4, h5, h6, h7⟩ : Pr X w V nb mb P s t u C m Q s' t' u' cs) hb).1, (Pr.kept (⟨F, G, h1, ⟨A, c, n, l, B, q, k, h2, e⟩, h3, h4, h5, h6, h7⟩ : Pr X w V nb mb P s t u C m Q s' t' u' cs) hb).2⟩⟩
  · have e0 : lookP Q i = (((a1, a2), (b1, b2), zs), true) := by unfold lookP; rw [hx]; rfl
    rw [e0]
    obtain ⟨j, rfl, hj⟩ := atP_some hx
    rw [← e] at hj
    obtain ⟨Ax, cx, hj⟩ := at_map hj
    have hp := h2.2.1.2.2 _ (List.mem_of_getElem? hj)
    refine (doc_look_in h2 j a1 a2 b1 b2 zs Ax cx hj).mono fun e' w' ⟨he, hb⟩ => ⟨a1, a2, b1, b2, zs, zs.length, Ax, cx, true, he, Lib.hid ⟨⟨rfl, rfl, own_ns (n := zs.length) (c := cx) (own_keep hp.1 fun g hg => hb.block g (hp.1.lt g hg).2)⟩, (Pr.kept (⟨F, G, h1, ⟨A, c, n, l, B, q, k, h2, e⟩, h3, h4, h5, h6, h7⟩ : Pr X w V nb mb P s t u C m Q s' t' u' cs) hb).1, (Pr.kept (⟨F, G, h1, ⟨A, c, n, l, B, q, k, h2, e⟩, h3, h4, h5, h6, h7⟩ : Pr X w V nb mb P s t u C m Q s' t' u' cs) hb).2⟩⟩
theorem Pr.rtake (h : Pr X w V nb mb P s t u C m Q s' t' u' cs) (hQ : Q.length ≤ 4096) (hcs : cs.length ≤ 2000000000000) (i : Int) :
    Calls Try.prog 25 #[hd mb, .int .i64 i] V (fun e w' => ∃ (a1 a2 b1 b2 : Int) (zs : List Int) (kz : Nat) (A : Option Addr) (c : Nat) (ok : Bool), e = .returned (.tuple #[.agg #[.int .i64 a1, .int .i64 a2, .int .i64 b1, .int .i64 b2, .slice A kz c], .bool ok]) ∧ Hid (Told w' a1 a2 b1 b2 zs kz A (takeP Q i (cutC cs)) ok ∧ Pr X w w' nb mb P s t u C m (goneP Q i) s' (takeT Q i (cutC cs) t') (takeU Q i (cutC cs) u') cs ∧ Kept X V w')) := by
  obtain ⟨F, G, h1, ⟨A, c, n, l, B, q, k, h2, e⟩, h3, h4, h5, h6, h7⟩ := h
  have hn : n = Q.length := by rw [← e, List.length_map, h2.2.1.1]
  have hk : k = cs.length := h2.2.2.1.1.symm
  rcases hx : atP Q i with _ | ⟨⟨a1, a2⟩, ⟨b1, b2⟩, zs⟩
  · have e0 : isCut Q i (cutC cs) = false := by unfold isCut; rw [hx]; rfl
    have e1 : takeP Q i (cutC cs) = (p0, false) := by unfold takeP lookP; rw [e0, hx]; rfl
    have e2 : goneP Q i = Q := by unfold goneP; rw [hx]; rfl
    have e3 : takeT Q i (cutC cs) t' = t' := by unfold takeT; rw [e1]; rfl
    have e4 : takeU Q i (cutC cs) u' = u' := by unfold takeU; rw [e0]; rfl
    rw [e1, e2, e3, e4]
    have hi := atP_none hx
    rw [← hn] at hi
    exact (doc_take_out h2 i hi).mono fun e' w' ⟨he, hb⟩ => ⟨0, 0, 0, 0, [], 0, none, 0, false, he, Lib.hid ⟨told_zero, (Pr.kept (⟨F, G, h1, ⟨A, c, n, l, B, q, k, h2, e⟩, h3, h4, h5, h6, h7⟩ : Pr X w V nb mb P s t u C m Q s' t' u' cs) hb).1, (Pr.kept (⟨F, G, h1, ⟨A, c, n, l, B, q, k, h2, e⟩, h3, h4, h5, h6, h7⟩ : Pr X w V nb mb P s t u C m Q s' t' u' cs) hb).2⟩⟩
  · obtain ⟨j, rfl, hj⟩ := atP_some hx
    have e0 : isCut Q (j : Int) (cutC cs) = cutC cs (a1, a2) (b1, b2) := by unfold isCut; rw [hx]; rfl
    have e2 : goneP Q (j : Int) = Q.eraseIdx j := by unfold goneP; rw [hx]; rfl
    have el : lookP Q (j : Int) = (((a1, a2), (b1, b2), zs), true) := by unfold lookP; rw [hx]; rfl
    rw [← e] at hj
    obtain ⟨Ax, cx, hj⟩ := at_map hj
    refine (doc_take_in h2 (by omega) (by omega) j hj zs.length rfl).mono fun e' w' ⟨G', A', c', n', hh, hr⟩ => ?_
    have eG : (l.eraseIdx j).map Prod.fst = Q.eraseIdx j := by rw [map_eraseIdx, e]
    rcases hr with ⟨hc, he, hR⟩ | ⟨hc, he, hR⟩
    · have e1 : takeP Q (j : Int) (cutC cs) = (p0, false) := by unfold takeP; rw [e0, hc]; rfl
      have e3 : takeT Q (j : Int) (cutC cs) t' = t' := by unfold takeT; rw [e1]; rfl
      have e4 : takeU Q (j : Int) (cutC cs) u' = IntKind.i64.wrap (u' + 1) := by unfold takeU; rw [e0, hc]; rfl
      rw [e1, e2, e3, e4]
      have hst := stepG (X := X) h1 h3 h4 h5 h6 h7 hR.out eG hh.out.2
      exact ⟨0, 0, 0, 0, [], 0, none, 0, false, he, Lib.hid ⟨told_zero, hst.1, hst.2⟩⟩
    · have e1 : takeP Q (j : Int) (cutC cs) = (((a1, a2), (b1, b2), zs), true) := by unfold takeP; rw [e0, hc, el]; rfl
      have e3 : takeT Q (j : Int) (cutC cs) t' = IntKind.i64.wrap (t' + 1) := by unfold takeT; rw [e1]; rfl
      have e4 : takeU Q (j : Int) (cutC cs) u' = u' := by unfold takeU; rw [e0, hc]; rfl
      rw [e1, e2, e3, e4]
      have hst := stepG (X := X) h1 h3 h4 h5 h6 h7 hR.out.1 eG hh.out.2
      exact ⟨a1, a2, b1, b2, zs, zs.length, Ax, cx, true, he, Lib.hid ⟨⟨rfl, rfl, hR.out.2⟩, hst.1, hst.2⟩⟩
theorem Pr.lose (h : Pr X w V nb mb P s t u C m Q s' t' u' cs) (i : Int) :
    Calls Try.prog 23 #[hd nb, .int .i64 i] V (fun e w' => e = .returned (.bool (atP P i).isSome) ∧ Hid (Pr X w w' nb mb (goneP P i) s t (loseU P i u) C m Q s' t' u' cs ∧ Kept X V w')) := by
  obtain ⟨F, G, h1, h2, h3, h4, h5, h6, h7⟩ := h
  unfold goneP loseU
  rcases hx : atP P i with _ | ⟨⟨a1, a2⟩, ⟨b1, b2⟩, zs⟩
  · exact (lose_out h1 i (atP_none hx)).mono fun e w' ⟨he, hw⟩ => ⟨he, Lib.hid (by rw [hw]; have hb := Below.refl V.heap.size V; exact (Pr.kept (⟨F, G, h1, h2, h3, h4, h5, h6, h7⟩ : Pr X w V nb mb P s t u C m Q s' t' u' cs) hb))⟩
  · obtain ⟨j, rfl, hj⟩ := atP_some hx
    exact (lose_in h1 hj).mono fun e w' ⟨he, F', hh⟩ => ⟨he, Lib.hid (stepF h2 h3 h4 h5 h6 h7 hh.out.1 hh.out.2)⟩
theorem Pr.rlose (h : Pr X w V nb mb P s t u C m Q s' t' u' cs) (hQ : Q.length ≤ 4096) (i : Int) :
    Calls Try.prog 26 #[hd mb, .int .i64 i] V (fun e w' => e = .returned (.bool (atP Q i).isSome) ∧ Hid (Pr X w w' nb mb P s t u C m (goneP Q i) s' t' (loseU Q i u') cs ∧ Kept X V w')) := by
  obtain ⟨F, G, h1, ⟨A, c, n, l, B, q, k, h2, e⟩, h3, h4, h5, h6, h7⟩ := h
  have hn : n = Q.length := by rw [← e, List.length_map, h2.2.1.1]
  unfold goneP loseU
  rcases hx : atP Q i with _ | p
  · have hi := atP_none hx
    rw [← hn] at hi
    exact (doc_lose_out h2 i hi).mono fun e' w' ⟨he, hb⟩ => ⟨he, Lib.hid (Pr.kept (⟨F, G, h1, ⟨A, c, n, l, B, q, k, h2, e⟩, h3, h4, h5, h6, h7⟩ : Pr X w V nb mb P s t u C m Q s' t' u' cs) hb)⟩
  · obtain ⟨j, rfl, hj⟩ := atP_some hx
    exact (doc_lose_in h2 (by omega) j (by have := (List.getElem?_eq_some_iff.1 hj).1; omega)).mono fun e' w' ⟨he, F', A', c', n', hh⟩ => ⟨he, Lib.hid (stepG h1 h3 h4 h5 h6 h7 hh.out.2.1 (by rw [map_eraseIdx, e]; rfl) hh.out.2.2)⟩
theorem Pr.copy (h : Pr X w V nb mb P s t u C m Q s' t' u' cs) (i : Int) :
    Calls Try.prog 21 #[hd nb, .int .i64 i] V (fun e w' => e = .returned (.bool (copyOk P i)) ∧ Hid (Pr X w w' nb mb (copyL P i) s t u C m Q s' t' u' cs ∧ Kept X V w')) := by
  obtain ⟨F, G, h1, h2, h3, h4, h5, h6, h7⟩ := h
  unfold copyL copyOk
  rcases hx : atP P i with _ | ⟨⟨a1, a2⟩, ⟨b1, b2⟩, zs⟩
  · exact (copy_out h1 i (atP_none hx)).mono fun e w' ⟨he, hw⟩ => ⟨he, Lib.hid (by rw [hw]; have hb := Below.refl V.heap.size V; exact (Pr.kept (⟨F, G, h1, h2, h3, h4, h5, h6, h7⟩ : Pr X w V nb mb P s t u C m Q s' t' u' cs) hb))⟩
  · obtain ⟨j, rfl, hj⟩ := atP_some hx
    by_cases hf : P.length < 4096
    · rw [decide_eq_true hf]
      exact (copy_in h1 hj hf).mono fun e w' ⟨he, F', hh⟩ => ⟨he, Lib.hid (stepF h2 h3 h4 h5 h6 h7 hh.out.1 hh.out.2)⟩
    · rw [decide_eq_false hf]
      exact (copy_full h1 hj (by omega)).mono fun e w' ⟨he, hb⟩ => ⟨he, Lib.hid (Pr.kept (⟨F, G, h1, h2, h3, h4, h5, h6, h7⟩ : Pr X w V nb mb P s t u C m Q s' t' u' cs) hb)⟩
theorem Pr.rcopy (h : Pr X w V nb mb P s t u C m Q s' t' u' cs) (i : Int) :
    Calls Try.prog 27 #[hd mb, .int .i64 i] V (fun e w' => e = .returned (.bool (copyOk Q i)) ∧ Hid (Pr X w w' nb mb P s t u C m (copyL Q i) s' t' u' cs ∧ Kept X V w')) := by
  obtain ⟨F, G, h1, ⟨A, c, n, l, B, q, k, h2, e⟩, h3, h4, h5, h6, h7⟩ := h
  have hn : n = Q.length := by rw [← e, List.length_map, h2.2.1.1]
  unfold copyL copyOk
  rcases hx : atP Q i with _ | p
  · have hi := atP_none hx
    rw [← hn] at hi
    exact (doc_copy_out h2 i hi).mono fun e' w' ⟨he, hb⟩ => ⟨he, Lib.hid (Pr.kept (⟨F, G, h1, ⟨A, c, n, l, B, q, k, h2, e⟩, h3, h4, h5, h6, h7⟩ : Pr X w V nb mb P s t u C m Q s' t' u' cs) hb)⟩
  · obtain ⟨j, rfl, hj⟩ := atP_some hx
    by_cases hf : Q.length < 4096
    · rw [decide_eq_true hf]
      rw [← e] at hj
      obtain ⟨Ax, cx, hj⟩ := at_map hj
      exact (doc_copy_in h2 (by omega) j _ hj).mono fun e' w' ⟨he, F', A', c', Ay, cy, hh⟩ => ⟨he, Lib.hid (stepG h1 h3 h4 h5 h6 h7 hh.out.1 (by rw [List.map_append, e]; rfl) hh.out.2)⟩
    · rw [decide_eq_false hf]
      exact (doc_copy_full h2 (by omega) j (by have := (List.getElem?_eq_some_iff.1 hj).1; omega)).mono fun e' w' ⟨he, hb⟩ => ⟨he, Lib.hid (Pr.kept (⟨F, G, h1, ⟨A, c, n, l, B, q, k, h2, e⟩, h3, h4, h5, h6, h7⟩ : Pr X w V nb mb P s t u C m Q s' t' u' cs) hb)⟩
theorem Pr.flip (h : Pr X w V nb mb P s t u C m Q s' t' u' cs) (i at_ x : Int) (hx8 : 0 ≤ x ∧ x ≤ 255) :
    Calls Try.prog 22 #[hd nb, .int .i64 i, .int .i64 at_, .int .u8 x] V (fun e w' => e = .returned (.bool (flipOk P i at_)) ∧ Hid (Pr X w w' nb mb (flipL P i at_ x) s t u C m Q s' t' u' cs ∧ Kept X V w')) := by
  obtain ⟨F, G, h1, h2, h3, h4, h5, h6, h7⟩ := h
  unfold flipL flipOk
  rcases hx : atP P i with _ | p
  · exact (flip_out h1 i at_ x (atP_none hx)).mono fun e w' ⟨he, hw⟩ => ⟨he, Lib.hid (by rw [hw]; have hb := Below.refl V.heap.size V; exact (Pr.kept (⟨F, G, h1, h2, h3, h4, h5, h6, h7⟩ : Pr X w V nb mb P s t u C m Q s' t' u' cs) hb))⟩
  · obtain ⟨j, rfl, hj⟩ := atP_some hx
    by_cases ha : 0 ≤ at_ ∧ at_ < p.2.2.length
    · obtain ⟨b, rfl⟩ : ∃ b : Nat, at_ = (b : Int) := ⟨at_.toNat, by omega⟩
      simp only [Option.any_some, decide_eq_true ha, if_true]
      exact (flip_yes h1 hj b p.2.2.length rfl (by omega) x hx8).mono fun e w' ⟨he, hh⟩ => ⟨he, Lib.hid (stepF h2 h3 h4 h5 h6 h7 hh.out.1 hh.out.2)⟩
    · simp only [Option.any_some, decide_eq_false ha]
      exact (flip_no h1 hj at_ x p.2.2.length rfl ha).mono fun e w' ⟨he, hw⟩ => ⟨he, Lib.hid (by rw [hw]; have hb := Below.refl V.heap.size V; exact (Pr.kept (⟨F, G, h1, h2, h3, h4, h5, h6, h7⟩ : Pr X w V nb mb P s t u C m Q s' t' u' cs) hb))⟩
theorem Pr.rflip (h : Pr X w V nb mb P s t u C m Q s' t' u' cs) (i at_ x : Int) (hx8 : 0 ≤ x ∧ x ≤ 255) :
    Calls Try.prog 28 #[hd mb, .int .i64 i, .int .i64 at_, .int .u8 x] V (fun e w' => e = .returned (.bool (flipOk Q i at_)) ∧ Hid (Pr X w w' nb mb P s t u C m (flipL Q i at_ x) s' t' u' cs ∧ Kept X V w')) := by
  obtain ⟨F, G, h1, ⟨A, c, n, l, B, q, k, h2, e⟩, h3, h4, h5, h6, h7⟩ := h
  have hn : n = Q.length := by rw [← e, List.length_map, h2.2.1.1]
  unfold flipL flipOk
  rcases hx : atP Q i with _ | p
  · have hi := atP_none hx
    rw [← hn] at hi
    exact (doc_flip_out h2 i at_ x hi).mono fun e' w' ⟨he, hb⟩ => ⟨he, Lib.hid (Pr.kept (⟨F, G, h1, ⟨A, c, n, l, B, q, k, h2, e⟩, h3, h4, h5, h6, h7⟩ : Pr X w V nb mb P s t u C m Q s' t' u' cs) hb)⟩
  · obtain ⟨j, rfl, hj⟩ := atP_some hx
    rw [← e] at hj
    obtain ⟨Ax, cx, hj⟩ := at_map hj
    by_cases ha : 0 ≤ at_ ∧ at_ < p.2.2.length
    · obtain ⟨b, rfl⟩ : ∃ b : Nat, at_ = (b : Int) := ⟨at_.toNat, by omega⟩
      simp only [Option.any_some, decide_eq_true ha, if_true]
      exact (doc_flip_yes h2 j hj b p.2.2.length rfl (by omega) x hx8).mono fun e' w' ⟨he, F', Ay, cy, hh⟩ => ⟨he, Lib.hid (stepG h1 h3 h4 h5 h6 h7 hh.out.1 (by rw [List.map_set, e]; rfl) hh.out.2)⟩
    · simp only [Option.any_some, decide_eq_false ha]
      exact (doc_flip_no h2 j hj at_ x p.2.2.length rfl ha).mono fun e' w' ⟨he, hb⟩ => ⟨he, Lib.hid (Pr.kept (⟨F, G, h1, ⟨A, c, n, l, B, q, k, h2, e⟩, h3, h4, h5, h6, h7⟩ : Pr X w V nb mb P s t u C m Q s' t' u' cs) hb)⟩
theorem Pr.part (h : Pr X w V nb mb P s t u C m Q s' t' u' cs) (hm : m ≤ 100000000000000) (a1 a2 b1 b2 : Int) (ha : okA (a1, a2)) (hb : okA (b1, b2)) (cut : Bool) :
    Calls Try.prog 20 #[hd nb, .agg #[.int .i64 a1, .int .i64 a2], .agg #[.int .i64 b1, .int .i64 b2], .bool cut] V (fun e w' => e = .returned (.tuple #[]) ∧ ∃ m1, m1 ≤ m + 2 ∧ Hid (Pr X w w' nb mb P s t u (partF C (a1, a2) (b1, b2) cut) m1 Q s' t' u' cs ∧ Kept X V w')) := by
  obtain ⟨F, G, h1, h2, h3, h4, h5, h6, h7⟩ := h
  unfold partF
  by_cases hab : (a1, a2) = (b1, b2)
  · rw [if_pos hab]
    injection hab with e1 e2
    subst e1 e2
    exact (part_same h1 a1 a2 cut).mono fun e w' ⟨he, hb⟩ => ⟨he, m, by omega, Lib.hid (Pr.kept (⟨F, G, h1, h2, h3, h4, h5, h6, h7⟩ : Pr X w V nb mb P s t u C m Q s' t' u' cs) hb)⟩
  · rw [if_neg hab]
    exact (part_diff h1 hm a1 a2 b1 b2 ha hb (fun ⟨e1, e2⟩ => hab (by rw [e1, e2])) cut).mono fun e w' ⟨he, m1, hm1, hh⟩ => ⟨he, m1, hm1, Lib.hid (stepF h2 h3 h4 h5 h6 h7 hh.out.1 hh.out.2)⟩
theorem Pr.rpart (h : Pr X w V nb mb P s t u C m Q s' t' u' cs) (hcs : cs.length ≤ 2000000000000) (a1 a2 b1 b2 : Int) (ha : okA (a1, a2)) (hb : okA (b1, b2)) (cut : Bool) :
    Calls Try.prog 29 #[hd mb, .agg #[.int .i64 a1, .int .i64 a2], .agg #[.int .i64 b1, .int .i64 b2], .bool cut] V (fun e w' => e = .returned (.tuple #[]) ∧ Hid (Pr X w w' nb mb P s t u C m Q s' t' u' (partL cs (a1, a2) (b1, b2) cut) ∧ Kept X V w')) := by
  obtain ⟨F, G, h1, ⟨A, c, n, l, B, q, k, h2, e⟩, h3, h4, h5, h6, h7⟩ := h
  have hk : k = cs.length := h2.2.2.1.1.symm
  exact (doc_part h2 (by omega) a1 a2 b1 b2 ha hb cut).mono fun e' w' ⟨he, F', B', q', k', hh⟩ => ⟨he, Lib.hid (stepG h1 h3 h4 h5 h6 h7 hh.out.2.1 e hh.out.2.2)⟩
theorem Pr.parted (h : Pr X w V nb mb P s t u C m Q s' t' u' cs) (a1 a2 b1 b2 : Int) (ha : okA (a1, a2)) (hb : okA (b1, b2)) :
    Calls Try.prog 14 #[hd nb, .agg #[.int .i64 a1, .int .i64 a2], .agg #[.int .i64 b1, .int .i64 b2]] V (fun e w' => e = .returned (.bool (C (a1, a2) (b1, b2))) ∧ Below V.heap.size V w') := by
  obtain ⟨F, G, h1, h2, h3, h4, h5, h6, h7⟩ := h
  exact parted_any h1 a1 a2 b1 b2 ha hb
theorem Pr.rparted (h : Pr X w V nb mb P s t u C m Q s' t' u' cs) (hcs : cs.length ≤ 2000000000000) (a1 a2 b1 b2 : Int) :
    Calls Try.prog 15 #[hd mb, .agg #[.int .i64 a1, .int .i64 a2], .agg #[.int .i64 b1, .int .i64 b2]] V (fun e w' => e = .returned (.bool (cutC cs (a1, a2) (b1, b2))) ∧ Below V.heap.size V w') := by
  obtain ⟨F, G, h1, ⟨A, c, n, l, B, q, k, h2, e⟩, h3, h4, h5, h6, h7⟩ := h
  have hk : k = cs.length := h2.2.2.1.1.symm
  exact doc_parted h2 (by omega) a1 a2 b1 b2
theorem Pr.len (h : Pr X w V nb mb P s t u C m Q s' t' u' cs) (n : Nat) (hn : P.length = n) : Calls Try.prog 13 #[hd nb] V (fun e w' => e = .returned (.int .i64 n) ∧ w' = V) := by
  obtain ⟨F, G, h1, h2, h3, h4, h5, h6, h7⟩ := h
  exact len_any h1 n hn
theorem Pr.tally (h : Pr X w V nb mb P s t u C m Q s' t' u' cs) : Calls Try.prog 12 #[hd nb] V (fun e w' => e = .returned (.tuple #[.int .i64 s, .int .i64 t, .int .i64 u]) ∧ Below V.heap.size V w') := by
  obtain ⟨F, G, h1, h2, h3, h4, h5, h6, h7⟩ := h
  exact tally_any h1
theorem Pr.plen (h : Pr X w V nb mb P s t u C m Q s' t' u' cs) : P.length ≤ 4096 := by
  obtain ⟨F, G, h1, h2, h3, h4, h5, h6, h7⟩ := h
  exact h1.len
/-- The document's network, as the law reads it. -/
theorem Pr.head (h : Pr X w V nb mb P s t u C m Q s' t' u' cs) (n : Nat) (hn : Q.length = n) : ∃ A c B q k, V.cell? ⟨mb, 0, none⟩ = some (.slice A n c) ∧ V.cell? ⟨mb, 1, none⟩ = some (.slice B k q) ∧ V.cell? ⟨mb, 2, none⟩ = some (.int .i64 s') ∧ V.cell? ⟨mb, 3, none⟩ = some (.int .i64 t') ∧ V.cell? ⟨mb, 4, none⟩ = some (.int .i64 u') ∧ mb < V.heap.size ∧
    ∀ j, j < n → ∃ g a1 a2 b1 b2 zs Ax cx, A = some ⟨g, 0, none⟩ ∧ Q[j]? = some ((a1, a2), (b1, b2), zs) ∧ (V.cell? ⟨g, j * 5, none⟩ = some (.int .i64 a1) ∧ V.cell? ⟨g, j * 5 + 1, none⟩ = some (.int .i64 a2) ∧ V.cell? ⟨g, j * 5 + 2, none⟩ = some (.int .i64 b1) ∧ V.cell? ⟨g, j * 5 + 3, none⟩ = some (.int .i64 b2) ∧ V.cell? ⟨g, j * 5 + 4, none⟩ = some (.slice Ax zs.length cx)) ∧ g < V.heap.size ∧ Ns .u8 V V.heap.size Ax zs := by
  obtain ⟨F, G, h1, ⟨A, c, n0, l, B, q, k, h2, e⟩, h3, h4, h5, h6, h7⟩ := h
  obtain ⟨m0, m1, m2, m3, m4⟩ := h2.head
  have hnn : n0 = n := by rw [← hn, ← e, List.length_map, h2.2.1.1]
  subst hnn
  refine ⟨A, c, B, q, k, m0, m1, m2, m3, m4, h2.mblt, fun j hj => ?_⟩
  obtain ⟨⟨⟨⟨a1, a2⟩, ⟨b1, b2⟩, zs⟩, Ax, cx⟩, hx⟩ : ∃ x, l[j]? = some x := ⟨_, List.getElem?_eq_getElem (by have := h2.2.1.1; omega)⟩
  obtain ⟨g, hA, hg, p0, p1, p2, p3, p4⟩ := h2.pkt_at hx
  have hp := h2.2.1.2.2 _ (List.mem_of_getElem? hx)
  refine ⟨g, a1, a2, b1, b2, zs, Ax, cx, hA, by rw [← e, List.getElem?_map, hx]; rfl, ⟨p0, p1, p2, p3, p4⟩, h2.lt g hg, own_ns (n := zs.length) (c := cx) hp.1⟩
end
end Net
end Go.Proofs.Ytinbaiblbbfnnaa
