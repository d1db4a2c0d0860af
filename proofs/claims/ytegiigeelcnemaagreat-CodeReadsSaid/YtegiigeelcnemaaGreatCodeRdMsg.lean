/-
  The reader of layer 6: messages.
-/
import Derived.Test.YtegiigeelcnemaaGreatCodeMsgPlain
import Derived.Test.YtegiigeelcnemaaGreatCodeRdRec
namespace Go.Proofs.YtegiigeelcnemaaGreat
namespace Code
open Go.RowKit Num Span Vers
attribute [local go_sem ↓] Go.wp_at_zero Go.wp_at_succ

/-- What is told of a world stays true while its blocks from B on stay. -/
def Clo (B : Nat) (O : World → Prop) : Prop := ∀ x x', O x → x.heap.size ≤ x'.heap.size → (∀ k, B ≤ k → k < x.heap.size → x'.heap[k]? = x.heap[k]?) → O x'
theorem clo_true (B : Nat) : Clo B (fun _ => True) := fun _ _ _ _ _ => trivial
theorem clo_and {B : Nat} {O O' : World → Prop} (h : Clo B O) (h' : Clo B O') : Clo B (fun x => O x ∧ O' x) := fun x x' hx hs hk => ⟨h x x' hx.1 hs hk, h' x x' hx.2 hs hk⟩
theorem clo_own {B M : Nat} (hM : B ≤ M) (t : TypeId) (s : Nat) (v : Value) (n : Nat) (xs : List Value) : Clo B (fun x => x.ownsRow M t s v n xs) := fun _ _ hx _ hk =>
  own_same hx fun g hg => hk g (by have := (hx.lt g hg).1; omega) (hx.lt g hg).2
theorem clo_rowR {B M : Nat} (hM : B ≤ M) (v : Value) (ps : List Pr) : Clo B (fun x => RowR M x.heap.size x v ps) := fun _ _ hx hs hk =>
  (hx.keep fun k h1 h2 => hk k (by omega) h2).more hs
/-- Where the reader of a message is. -/
def StO (g : Nat) (A : Option Addr) (c n : Nat) (zs : List Int) (T : TypeId) (z vs : List Value) (w : World) (B : Nat) (O : World → Prop) (p : Nat) (x : World) : Prop :=
  St g A c n zs T z vs w B p x ∧ O x ∧ Clo (B + 2) O
section
variable {g c n B p q : Nat} {A : Option Addr} {zs : List Int} {T : TypeId} {z vs : List Value} {w x x' : World} {O O' : World → Prop}
theorem StO.call (h : StO g A c n zs T z vs w B O p x) (hg : x.grownBy x' (some g)) (hr : Rd g A c n q x') : StO g A c n zs T z vs w B O q x' := by
  obtain ⟨h1, h2, h3⟩ := h
  have := h1.2.2.2.2.2.2
  exact ⟨h1.call hg hr, h3 _ _ h2 hg.size (grown_keep hg (by omega)), h3⟩
theorem StO.set (h : StO g A c n zs T z vs w B O p x) (k : Nat) (v : Value) : StO g A c n zs T z (vs.set k v) w B O p (x.setCell ⟨B + 1, k, none⟩ v) := by
  obtain ⟨h1, h2, h3⟩ := h
  have hg := grown_set1 x (B + 1) k v
  exact ⟨h1.set k v, h3 _ _ h2 hg.size (grown_keep hg (by omega)), h3⟩
theorem StO.add (h : StO g A c n zs T z vs w B O p x) (h1 : O' x) (h2 : Clo (B + 2) O') : StO g A c n zs T z vs w B (fun x => O x ∧ O' x) p x := ⟨h.1, ⟨h.2.1, h1⟩, clo_and h.2.2 h2⟩
theorem StO.fill (h : StO g A c n zs T z vs w B O p x) (us : List Value) (hl : z.length = us.length) : Bn B T us (x.setCells B 0 us) ∧ x.grownBy (x.setCells B 0 us) (some B) ∧ w.grownBy (x.setCells B 0 us) (some g) ∧ Rd g A c n p (x.setCells B 0 us) ∧ O (x.setCells B 0 us) := by
  obtain ⟨h1, h2, h3⟩ := h
  obtain ⟨_, k1, k2, k3, k4⟩ := h1.fill us hl
  exact ⟨k1, k2, k3, k4, h3 _ _ h2 k2.size (grown_keep k2 (by omega))⟩
theorem StO.room (h : StO g A c n zs T z vs w B O p x) : B + 2 ≤ x.heap.size := h.1.2.2.2.2.1.lt
end

/-- Where the lists of a message lie. -/
abbrev Pl := (Option Addr × Nat) × (Option Addr × Nat) × (Option Addr × Nat) × (Option Addr × Nat) × (Option Addr × Nat)
def mcc : Ms → Pl → List Value
  | (kind, fr, to_, id, n, for_, code, key, recs, vec, path, hashes, route), (a8, a9, a10, a11, a12) =>
    [.int .i64 kind, .int .i64 fr.1, .int .i64 fr.2, .int .i64 to_.1, .int .i64 to_.2, .int .i64 id, .int .i64 n, .int .i64 for_, .int .i64 code, .string key, .slice a8.1 recs.length a8.2, .slice a9.1 vec.length a9.2, .slice a10.1 path.length a10.2, .slice a11.1 hashes.length a11.2, .slice a12.1 route.length a12.2]
/-- The lists of a message, made by the call. -/
def MsgO (B : Nat) (w : World) : Ms → Pl → Prop
  | (_, _, _, _, _, _, _, _, recs, vec, path, hashes, route), (a8, a9, a10, a11, a12) =>
    (recs.length ≤ a8.2 ∧ ∃ ps, ps.map Prod.fst = recs ∧ RowR B w.heap.size w (.slice a8.1 recs.length a8.2) ps) ∧ w.ownsRow B 2 1 (.slice a9.1 vec.length a9.2) vec.length (nums .i64 vec) ∧ w.ownsRow B 3 1 (.slice a10.1 path.length a10.2) path.length (nums .i64 path) ∧
    w.ownsRow B 95 1 (.slice a11.1 hashes.length a11.2) hashes.length (nums .u64 hashes) ∧ w.ownsRow B 3 1 (.slice a12.1 route.length a12.2) route.length (nums .i64 route)
def msgV (B : Nat) (m : Ms) (v : Value) (w' : World) : Prop := ∃ a, v = .agg (mcc m a).toArray ∧ MsgO B w' m a
theorem RowR.less {base base' B : Nat} {w : World} {v : Value} {ps : List Pr} (h : RowR base B w v ps) (hb : base' ≤ base) : RowR base' B w v ps := by
  refine ⟨own_base h.1 hb, h.2.1, fun p hp => ?_⟩
  obtain ⟨L, C, h1, h2, h3, h4⟩ := h.2.2 p hp
  exact ⟨L, C, by omega, h2, h3, h4⟩

set_option maxRecDepth 100000 in
set_option maxHeartbeats 4000000 in
theorem rmsg_any (g : Nat) (A : Option Addr) (c n p : Nat) (zs : List Int) (w : World) (hs : Src g A c n zs w) (hr : Rd g A c n p w) (hp : p ≤ n) :
    Calls Tryz.prog 46 #[.pointer (some ⟨g, 0, none⟩)] w (Took g A c n w (msgP zs p) (msgV w.heap.size)) := by
  have hlt := hr.lt
  have hby := hs.2.1
  have hn := hs.2.2.1
  have hbig0 := hs.2.2.2.2
  have hbig : zs.length ≤ 4294967296 := by omega
  have hmf : ∀ (fn : Fn) (first cap : Array Value) (w : World), (Instr.makeFunc fn first cap).run Tryz.prog w = .ok (.func fn first cap) w := fun _ _ _ _ => rfl
  obtain ⟨B, hB⟩ : ∃ B, w.heap.size = B := ⟨_, rfl⟩
  have hBg : B ≠ g := by omega
  obtain ⟨W, hW⟩ : ∃ W, (w.alloc (.cells #[.int .i64 0, .int .i64 0, .int .i64 0, .int .i64 0, .int .i64 0, .int .i64 0, .int .i64 0, .int .i64 0, .int .i64 0, .string ⟨#[]⟩, .slice none 0 0, .slice none 0 0, .slice none 0 0, .slice none 0 0, .slice none 0 0] 45)).alloc (.cells #[.int .i64 0, .int .i64 0, .int .i64 0, .int .i64 0, .int .i64 0, .int .i64 0, .int .i64 0, .int .i64 0, .int .i64 0, .string ⟨#[]⟩, .slice none 0 0, .slice none 0 0, .slice none 0 0, .slice none 0 0, .slice none 0 0] 45) = W := ⟨_, rfl⟩
  have hgW : w.grownBy W (some g) := by rw [← hW]; exact grown_trans (World.grownBy_alloc _ _ _) (World.grownBy_alloc _ _ _)
  have hT : StO g A c n zs 45 [.int .i64 0, .int .i64 0, .int .i64 0, .int .i64 0, .int .i64 0, .int .i64 0, .int .i64 0, .int .i64 0, .int .i64 0, .string ⟨#[]⟩, .slice none 0 0, .slice none 0 0, .slice none 0 0, .slice none 0 0, .slice none 0 0] [.int .i64 0, .int .i64 0, .int .i64 0, .int .i64 0, .int .i64 0, .int .i64 0, .int .i64 0, .int .i64 0, .int .i64 0, .string ⟨#[]⟩, .slice none 0 0, .slice none 0 0, .slice none 0 0, .slice none 0 0, .slice none 0 0] w B (fun _ => True) p W := by
    refine ⟨⟨hs.kept hgW hlt, ?_, hgW, ?_, ?_, hB, by omega⟩, trivial, clo_true _⟩
    · rw [← hW]; exact (hr.alloc _).alloc _
    · rw [← hW, ← hB]; exact Bn.kept (heap_alloc_new _ _) (World.grownBy_alloc _ _ none) (by simp)
    · rw [← hW, ← hB]
      have := heap_alloc_new (w.alloc (.cells #[.int .i64 0, .int .i64 0, .int .i64 0, .int .i64 0, .int .i64 0, .int .i64 0, .int .i64 0, .int .i64 0, .int .i64 0, .string ⟨#[]⟩, .slice none 0 0, .slice none 0 0, .slice none 0 0, .slice none 0 0, .slice none 0 0] 45)) (.cells #[.int .i64 0, .int .i64 0, .int .i64 0, .int .i64 0, .int .i64 0, .int .i64 0, .int .i64 0, .int .i64 0, .int .i64 0, .string ⟨#[]⟩, .slice none 0 0, .slice none 0 0, .slice none 0 0, .slice none 0 0, .slice none 0 0] 45)
      rw [World.size_alloc] at this
      exact this
  have hq : p ≤ n := hp
  have HBY := Lib.hid hby
  clear hs hr hgW hp hby
  have h := whole_any g A c n p zs W hT.1.1 hT.1.2.1 hq
  rcases hP : upP 2147483647 zs p with _ | ⟨x1, q1⟩
  · have hU : msgP zs p = none := pairP_none hP
    rw [hP] at h
    have H := Lib.hid h
    have HG := Lib.hid (And.intro hU hT.1.2.2.1)
    clear h hP hU hT
    go_enter Tryz.func46, Tryz.ntmps46
    go_wp2_with fail
    refine H.out.mono ?_
    intro e w1 hT
    obtain ⟨hg, rfl⟩ := hT.none
    refine ⟨rfl, ?_⟩
    rw [HG.out.1]
    exact took_none (grown_trans HG.out.2 hg)
  rw [hP] at h
  have hgo := (par_up HBY.out (by omega)).goes _ _ _ (by omega) hP
  have HP1 := Lib.hid hP
  replace hq : q1 ≤ n := by omega
  have H := Lib.hid h
  have HS := Lib.hid hT
  clear h hP hT hgo
  go_enter Tryz.func46, Tryz.ntmps46
  go_wp2_with fail
  refine H.out.mono ?_
  intro e w1 hT
  obtain ⟨v, rfl, hr, hv, hg⟩ := hT.some
  have hv' : v = .int .i64 x1 := hv
  subst hv'
  clear hv
  replace hT := HS.out.call hg hr
  have k0 := hT.1.2.2.2.2.1.cell 0
  have f0 := hT.1.2.2.2.2.1.frozen 0
  simp only [List.getElem?_cons_zero] at k0
  replace hT := hT.set 0 (.int .i64 x1)
  simp only [List.set_cons_zero] at hT
  obtain ⟨V1, hV⟩ : ∃ V, w1.setCell ⟨B + 1, 0, none⟩ (.int .i64 x1) = V := ⟨_, rfl⟩
  rw [hV] at hT
  clear hr hg H HS
  have h := raddr_any g A c n q1 zs V1 hT.1.1 hT.1.2.1 hq
  rcases hP : addrP zs q1 with _ | ⟨⟨x2, z2⟩, q2⟩
  · have hU : msgP zs p = none := pairP_none2 HP1.out (pairP_none hP)
    rw [hP] at h
    have H := Lib.hid h
    have HG := Lib.hid (And.intro hU hT.1.2.2.1)
    clear h hP hU hT
    go_wp2_with fail
    refine H.out.mono ?_
    intro e w1 hT
    obtain ⟨hg, rfl⟩ := hT.none
    refine ⟨rfl, ?_⟩
    rw [HG.out.1]
    exact took_none (grown_trans HG.out.2 hg)
  rw [hP] at h
  have hgo := (par_addr HBY.out).goes _ _ _ (by omega) hP
  have HP2 := Lib.hid hP
  replace hq : q2 ≤ n := by omega
  have H := Lib.hid h
  have HS := Lib.hid hT
  clear h hP hT hgo
  go_wp2_with fail
  refine H.out.mono ?_
  intro e w2 hT
  obtain ⟨v, rfl, hr, hv, hg⟩ := hT.some
  have hv' : v = .agg #[.int .i64 x2, .int .i64 z2] := hv
  subst hv'
  clear hv
  replace hT := HS.out.call hg hr
  have k0 := hT.1.2.2.2.2.1.cell 1
  have f0 := hT.1.2.2.2.2.1.frozen 1
  have k1 := hT.1.2.2.2.2.1.cell 2
  have f1 := hT.1.2.2.2.2.1.frozen 2
  simp only [List.getElem?_cons_zero, List.getElem?_cons_succ] at k0 k1
  replace hT := hT.set 1 (.int .i64 x2)
  replace hT := hT.set 2 (.int .i64 z2)
  simp only [List.set_cons_zero, List.set_cons_succ] at hT
  obtain ⟨V2, hV⟩ : ∃ V, (w2.setCell ⟨B + 1, 1, none⟩ (.int .i64 x2)).setCell ⟨B + 1, 2, none⟩ (.int .i64 z2) = V := ⟨_, rfl⟩
  rw [hV] at hT
  clear hr hg H HS
  have h := raddr_any g A c n q2 zs V2 hT.1.1 hT.1.2.1 hq
  rcases hP : addrP zs q2 with _ | ⟨⟨x3, z3⟩, q3⟩
  · have hU : msgP zs p = none := pairP_none2 HP1.out (pairP_none2 HP2.out (pairP_none hP))
    rw [hP] at h
    have H := Lib.hid h
    have HG := Lib.hid (And.intro hU hT.1.2.2.1)
    clear h hP hU hT
    go_wp2_with fail
    refine H.out.mono ?_
    intro e w1 hT
    obtain ⟨hg, rfl⟩ := hT.none
    refine ⟨rfl, ?_⟩
    rw [HG.out.1]
    exact took_none (grown_trans HG.out.2 hg)
  rw [hP] at h
  have hgo := (par_addr HBY.out).goes _ _ _ (by omega) hP
  have HP3 := Lib.hid hP
  replace hq : q3 ≤ n := by omega
  have H := Lib.hid h
  have HS := Lib.hid hT
  clear h hP hT hgo
  go_wp2_with fail
  refine H.out.mono ?_
  intro e w3 hT
  obtain ⟨v, rfl, hr, hv, hg⟩ := hT.some
  have hv' : v = .agg #[.int .i64 x3, .int .i64 z3] := hv
  subst hv'
  clear hv
  replace hT := HS.out.call hg hr
  have k0 := hT.1.2.2.2.2.1.cell 3
  have f0 := hT.1.2.2.2.2.1.frozen 3
  have k1 := hT.1.2.2.2.2.1.cell 4
  have f1 := hT.1.2.2.2.2.1.frozen 4
  simp only [List.getElem?_cons_zero, List.getElem?_cons_succ] at k0 k1
  replace hT := hT.set 3 (.int .i64 x3)
  replace hT := hT.set 4 (.int .i64 z3)
  simp only [List.set_cons_zero, List.set_cons_succ] at hT
  obtain ⟨V3, hV⟩ : ∃ V, (w3.setCell ⟨B + 1, 3, none⟩ (.int .i64 x3)).setCell ⟨B + 1, 4, none⟩ (.int .i64 z3) = V := ⟨_, rfl⟩
  rw [hV] at hT
  clear hr hg H HS
  have h := rnum_any g A c n q3 zs V3 hT.1.1 hT.1.2.1 hq
  rcases hP : numP zs q3 with _ | ⟨x4, q4⟩
  · have hU : msgP zs p = none := pairP_none2 HP1.out (pairP_none2 HP2.out (pairP_none2 HP3.out (pairP_none hP)))
    rw [hP] at h
    have H := Lib.hid h
    have HG := Lib.hid (And.intro hU hT.1.2.2.1)
    clear h hP hU hT
    go_wp2_with fail
    refine H.out.mono ?_
    intro e w1 hT
    obtain ⟨hg, rfl⟩ := hT.none
    refine ⟨rfl, ?_⟩
    rw [HG.out.1]
    exact took_none (grown_trans HG.out.2 hg)
  rw [hP] at h
  have hgo := (par_num HBY.out).goes _ _ _ (by omega) hP
  have HP4 := Lib.hid hP
  replace hq : q4 ≤ n := by omega
  have H := Lib.hid h
  have HS := Lib.hid hT
  clear h hP hT hgo
  go_wp2_with fail
  refine H.out.mono ?_
  intro e w4 hT
  obtain ⟨v, rfl, hr, hv, hg⟩ := hT.some
  have hv' : v = .int .i64 x4 := hv
  subst hv'
  clear hv
  replace hT := HS.out.call hg hr
  have k0 := hT.1.2.2.2.2.1.cell 5
  have f0 := hT.1.2.2.2.2.1.frozen 5
  simp only [List.getElem?_cons_zero, List.getElem?_cons_succ] at k0
  replace hT := hT.set 5 (.int .i64 x4)
  simp only [List.set_cons_zero, List.set_cons_succ] at hT
  obtain ⟨V4, hV⟩ : ∃ V, w4.setCell ⟨B + 1, 5, none⟩ (.int .i64 x4) = V := ⟨_, rfl⟩
  rw [hV] at hT
  clear hr hg H HS
  have h := rnum_any g A c n q4 zs V4 hT.1.1 hT.1.2.1 hq
  rcases hP : numP zs q4 with _ | ⟨x5, q5⟩
  · have hU : msgP zs p = none := pairP_none2 HP1.out (pairP_none2 HP2.out (pairP_none2 HP3.out (pairP_none2 HP4.out (pairP_none hP))))
    rw [hP] at h
    have H := Lib.hid h
    have HG := Lib.hid (And.intro hU hT.1.2.2.1)
    clear h hP hU hT
    go_wp2_with fail
    refine H.out.mono ?_
    intro e w1 hT
    obtain ⟨hg, rfl⟩ := hT.none
    refine ⟨rfl, ?_⟩
    rw [HG.out.1]
    exact took_none (grown_trans HG.out.2 hg)
  rw [hP] at h
  have hgo := (par_num HBY.out).goes _ _ _ (by omega) hP
  have HP5 := Lib.hid hP
  replace hq : q5 ≤ n := by omega
  have H := Lib.hid h
  have HS := Lib.hid hT
  clear h hP hT hgo
  go_wp2_with fail
  refine H.out.mono ?_
  intro e w5 hT
  obtain ⟨v, rfl, hr, hv, hg⟩ := hT.some
  have hv' : v = .int .i64 x5 := hv
  subst hv'
  clear hv
  replace hT := HS.out.call hg hr
  have k0 := hT.1.2.2.2.2.1.cell 6
  have f0 := hT.1.2.2.2.2.1.frozen 6
  simp only [List.getElem?_cons_zero, List.getElem?_cons_succ] at k0
  replace hT := hT.set 6 (.int .i64 x5)
  simp only [List.set_cons_zero, List.set_cons_succ] at hT
  obtain ⟨V5, hV⟩ : ∃ V, w5.setCell ⟨B + 1, 6, none⟩ (.int .i64 x5) = V := ⟨_, rfl⟩
  rw [hV] at hT
  clear hr hg H HS
  have h := whole_any g A c n q5 zs V5 hT.1.1 hT.1.2.1 hq
  rcases hP : upP 2147483647 zs q5 with _ | ⟨x6, q6⟩
  · have hU : msgP zs p = none := pairP_none2 HP1.out (pairP_none2 HP2.out (pairP_none2 HP3.out (pairP_none2 HP4.out (pairP_none2 HP5.out (pairP_none hP)))))
    rw [hP] at h
    have H := Lib.hid h
    have HG := Lib.hid (And.intro hU hT.1.2.2.1)
    clear h hP hU hT
    go_wp2_with fail
    refine H.out.mono ?_
    intro e w1 hT
    obtain ⟨hg, rfl⟩ := hT.none
    refine ⟨rfl, ?_⟩
    rw [HG.out.1]
    exact took_none (grown_trans HG.out.2 hg)
  rw [hP] at h
  have hgo := (par_up HBY.out (by omega)).goes _ _ _ (by omega) hP
  have HP6 := Lib.hid hP
  replace hq : q6 ≤ n := by omega
  have H := Lib.hid h
  have HS := Lib.hid hT
  clear h hP hT hgo
  go_wp2_with fail
  refine H.out.mono ?_
  intro e w6 hT
  obtain ⟨v, rfl, hr, hv, hg⟩ := hT.some
  have hv' : v = .int .i64 x6 := hv
  subst hv'
  clear hv
  replace hT := HS.out.call hg hr
  have k0 := hT.1.2.2.2.2.1.cell 7
  have f0 := hT.1.2.2.2.2.1.frozen 7
  simp only [List.getElem?_cons_zero, List.getElem?_cons_succ] at k0
  replace hT := hT.set 7 (.int .i64 x6)
  simp only [List.set_cons_zero, List.set_cons_succ] at hT
  obtain ⟨V6, hV⟩ : ∃ V, w6.setCell ⟨B + 1, 7, none⟩ (.int .i64 x6) = V := ⟨_, rfl⟩
  rw [hV] at hT
  clear hr hg H HS
  have h := whole_any g A c n q6 zs V6 hT.1.1 hT.1.2.1 hq
  rcases hP : upP 2147483647 zs q6 with _ | ⟨x7, q7⟩
  · have hU : msgP zs p = none := pairP_none2 HP1.out (pairP_none2 HP2.out (pairP_none2 HP3.out (pairP_none2 HP4.out (pairP_none2 HP5.out (pairP_none2 HP6.out (pairP_none hP))))))
    rw [hP] at h
    have H := Lib.hid h
    have HG := Lib.hid (And.intro hU hT.1.2.2.1)
    clear h hP hU hT
    go_wp2_with fail
    refine H.out.mono ?_
    intro e w1 hT
    obtain ⟨hg, rfl⟩ := hT.none
    refine ⟨rfl, ?_⟩
    rw [HG.out.1]
    exact took_none (grown_trans HG.out.2 hg)
  rw [hP] at h
  have hgo := (par_up HBY.out (by omega)).goes _ _ _ (by omega) hP
  have HP7 := Lib.hid hP
  replace hq : q7 ≤ n := by omega
  have H := Lib.hid h
  have HS := Lib.hid hT
  clear h hP hT hgo
  go_wp2_with fail
  refine H.out.mono ?_
  intro e w7 hT
  obtain ⟨v, rfl, hr, hv, hg⟩ := hT.some
  have hv' : v = .int .i64 x7 := hv
  subst hv'
  clear hv
  replace hT := HS.out.call hg hr
  have k0 := hT.1.2.2.2.2.1.cell 8
  have f0 := hT.1.2.2.2.2.1.frozen 8
  simp only [List.getElem?_cons_zero, List.getElem?_cons_succ] at k0
  replace hT := hT.set 8 (.int .i64 x7)
  simp only [List.set_cons_zero, List.set_cons_succ] at hT
  obtain ⟨V7, hV⟩ : ∃ V, w7.setCell ⟨B + 1, 8, none⟩ (.int .i64 x7) = V := ⟨_, rfl⟩
  rw [hV] at hT
  clear hr hg H HS
  have h := rtext_any g A c n q7 zs 32 (by omega) V7 hT.1.1 hT.1.2.1 hq
  rcases hP : textP 32 zs q7 with _ | ⟨y8, q8⟩
  · have hU : msgP zs p = none := pairP_none2 HP1.out (pairP_none2 HP2.out (pairP_none2 HP3.out (pairP_none2 HP4.out (pairP_none2 HP5.out (pairP_none2 HP6.out (pairP_none2 HP7.out (pairP_none (show strP 32 zs q7 = none by unfold strP; rw [hP]))))))))
    rw [hP] at h
    have H := Lib.hid h
    have HG := Lib.hid (And.intro hU hT.1.2.2.1)
    clear h hP hU hT
    go_wp2_with fail
    refine H.out.mono ?_
    intro e w1 hT
    obtain ⟨hg, rfl⟩ := hT.none
    refine ⟨rfl, ?_⟩
    rw [HG.out.1]
    exact took_none (grown_trans HG.out.2 hg)
  rw [hP] at h
  have hS : strP 32 zs q7 = some (strOfNums y8, q8) := by unfold strP; rw [hP]
  obtain ⟨x8, hx8⟩ : ∃ x, strOfNums y8 = x := ⟨_, rfl⟩
  rw [hx8] at hS
  have hgo := (par_str HBY.out hbig).goes _ _ _ (by omega) hS
  have HP8 := Lib.hid hS
  replace hq : q8 ≤ n := by omega
  have H := Lib.hid h
  have HS := Lib.hid hT
  clear h hP hT hgo hS
  go_wp2_with fail
  refine H.out.mono ?_
  intro e w8 hT
  obtain ⟨v, rfl, hr, hv, hg⟩ := hT.some
  have hv' : v = .string x8 := by rw [← hx8]; exact hv
  subst hv'
  clear hv
  replace hT := HS.out.call hg hr
  have k0 := hT.1.2.2.2.2.1.cell 9
  have f0 := hT.1.2.2.2.2.1.frozen 9
  simp only [List.getElem?_cons_zero, List.getElem?_cons_succ] at k0
  replace hT := hT.set 9 (.string x8)
  simp only [List.set_cons_zero, List.set_cons_succ] at hT
  obtain ⟨V8, hV⟩ : ∃ V, w8.setCell ⟨B + 1, 9, none⟩ (.string x8) = V := ⟨_, rfl⟩
  rw [hV] at hT
  clear hr hg H HS
  have h := rrecs_any g A c n q8 zs V8 hT.1.1 hT.1.2.1 hq
  obtain ⟨M9, hM9⟩ : ∃ M, V8.heap.size = M := ⟨_, rfl⟩
  have hm9 := hT.room
  rw [hM9] at h hm9
  rcases hP : seqP (recP zs) zs q8 with _ | ⟨x9, q9⟩
  · have hU : msgP zs p = none := pairP_none2 HP1.out (pairP_none2 HP2.out (pairP_none2 HP3.out (pairP_none2 HP4.out (pairP_none2 HP5.out (pairP_none2 HP6.out (pairP_none2 HP7.out (pairP_none2 HP8.out (pairP_none hP))))))))
    rw [hP] at h
    have H := Lib.hid h
    have HG := Lib.hid (And.intro hU hT.1.2.2.1)
    clear h hP hU hT
    go_wp2_with fail
    refine H.out.mono ?_
    intro e w1 hT
    obtain ⟨hg, rfl⟩ := hT.none
    refine ⟨rfl, ?_⟩
    rw [HG.out.1]
    exact took_none (grown_trans HG.out.2 hg)
  rw [hP] at h
  have hgo := ((par_rec HBY.out hbig).list HBY.out hbig).goes _ _ _ (by omega) hP
  have HP9 := Lib.hid hP
  replace hq : q9 ≤ n := by omega
  have H := Lib.hid h
  have HS := Lib.hid hT
  clear h hP hT hgo
  go_wp2_with fail
  refine H.out.mono ?_
  intro e w9 hT
  obtain ⟨v, rfl, hr, ⟨A9, c9, ps, rfl, hps, hlc, hrow⟩, hg⟩ := hT.some
  replace hT := HS.out.call hg hr
  obtain ⟨l9, hl9⟩ : ∃ l, x9.length = l := ⟨_, rfl⟩
  rw [hl9] at hlc hrow ⊢
  replace hT := hT.add hrow (clo_rowR hm9 _ _)
  clear hrow
  have k0 := hT.1.2.2.2.2.1.cell 10
  have f0 := hT.1.2.2.2.2.1.frozen 10
  simp only [List.getElem?_cons_zero, List.getElem?_cons_succ] at k0
  replace hT := hT.set 10 (.slice A9 l9 c9)
  simp only [List.set_cons_zero, List.set_cons_succ] at hT
  obtain ⟨V9, hV⟩ : ∃ V, w9.setCell ⟨B + 1, 10, none⟩ (.slice A9 l9 c9) = V := ⟨_, rfl⟩
  rw [hV] at hT
  clear hr hg H HS
  have h := rnums_any g A c n q9 zs V9 hT.1.1 hT.1.2.1 hq
  obtain ⟨M10, hM10⟩ : ∃ M, V9.heap.size = M := ⟨_, rfl⟩
  have hm10 := hT.room
  rw [hM10] at h hm10
  rcases hP : seqP (numP zs) zs q9 with _ | ⟨x10, q10⟩
  · have hU : msgP zs p = none := pairP_none2 HP1.out (pairP_none2 HP2.out (pairP_none2 HP3.out (pairP_none2 HP4.out (pairP_none2 HP5.out (pairP_none2 HP6.out (pairP_none2 HP7.out (pairP_none2 HP8.out (pairP_none2 HP9.out (pairP_none hP)))))))))
    rw [hP] at h
    have H := Lib.hid h
    have HG := Lib.hid (And.intro hU hT.1.2.2.1)
    clear h hP hU hT
    go_wp2_with fail
    refine H.out.mono ?_
    intro e w1 hT
    obtain ⟨hg, rfl⟩ := hT.none
    refine ⟨rfl, ?_⟩
    rw [HG.out.1]
    exact took_none (grown_trans HG.out.2 hg)
  rw [hP] at h
  have hgo := ((par_num HBY.out).list HBY.out hbig).goes _ _ _ (by omega) hP
  have HP10 := Lib.hid hP
  replace hq : q10 ≤ n := by omega
  have H := Lib.hid h
  have HS := Lib.hid hT
  clear h hP hT hgo
  go_wp2_with fail
  refine H.out.mono ?_
  intro e w10 hT
  obtain ⟨v, rfl, hr, ⟨A10, c10, rfl, hrow⟩, hg⟩ := hT.some
  replace hT := HS.out.call hg hr
  obtain ⟨l10, hl10⟩ : ∃ l, x10.length = l := ⟨_, rfl⟩
  rw [hl10] at hrow ⊢
  replace hT := hT.add hrow (clo_own hm10 _ _ _ _ _)
  clear hrow
  have k0 := hT.1.2.2.2.2.1.cell 11
  have f0 := hT.1.2.2.2.2.1.frozen 11
  simp only [List.getElem?_cons_zero, List.getElem?_cons_succ] at k0
  replace hT := hT.set 11 (.slice A10 l10 c10)
  simp only [List.set_cons_zero, List.set_cons_succ] at hT
  obtain ⟨V10, hV⟩ : ∃ V, w10.setCell ⟨B + 1, 11, none⟩ (.slice A10 l10 c10) = V := ⟨_, rfl⟩
  rw [hV] at hT
  clear hr hg H HS
  have h := rwholes_any g A c n q10 zs V10 hT.1.1 hT.1.2.1 hq
  obtain ⟨M11, hM11⟩ : ∃ M, V10.heap.size = M := ⟨_, rfl⟩
  have hm11 := hT.room
  rw [hM11] at h hm11
  rcases hP : seqP (upP 2147483647 zs) zs q10 with _ | ⟨x11, q11⟩
  · have hU : msgP zs p = none := pairP_none2 HP1.out (pairP_none2 HP2.out (pairP_none2 HP3.out (pairP_none2 HP4.out (pairP_none2 HP5.out (pairP_none2 HP6.out (pairP_none2 HP7.out (pairP_none2 HP8.out (pairP_none2 HP9.out (pairP_none2 HP10.out (pairP_none hP))))))))))
    rw [hP] at h
    have H := Lib.hid h
    have HG := Lib.hid (And.intro hU hT.1.2.2.1)
    clear h hP hU hT
    go_wp2_with fail
    refine H.out.mono ?_
    intro e w1 hT
    obtain ⟨hg, rfl⟩ := hT.none
    refine ⟨rfl, ?_⟩
    rw [HG.out.1]
    exact took_none (grown_trans HG.out.2 hg)
  rw [hP] at h
  have hgo := ((par_up HBY.out (by omega)).list HBY.out hbig).goes _ _ _ (by omega) hP
  have HP11 := Lib.hid hP
  replace hq : q11 ≤ n := by omega
  have H := Lib.hid h
  have HS := Lib.hid hT
  clear h hP hT hgo
  go_wp2_with fail
  refine H.out.mono ?_
  intro e w11 hT
  obtain ⟨v, rfl, hr, ⟨A11, c11, rfl, hrow⟩, hg⟩ := hT.some
  replace hT := HS.out.call hg hr
  obtain ⟨l11, hl11⟩ : ∃ l, x11.length = l := ⟨_, rfl⟩
  rw [hl11] at hrow ⊢
  replace hT := hT.add hrow (clo_own hm11 _ _ _ _ _)
  clear hrow
  have k0 := hT.1.2.2.2.2.1.cell 12
  have f0 := hT.1.2.2.2.2.1.frozen 12
  simp only [List.getElem?_cons_zero, List.getElem?_cons_succ] at k0
  replace hT := hT.set 12 (.slice A11 l11 c11)
  simp only [List.set_cons_zero, List.set_cons_succ] at hT
  obtain ⟨V11, hV⟩ : ∃ V, w11.setCell ⟨B + 1, 12, none⟩ (.slice A11 l11 c11) = V := ⟨_, rfl⟩
  rw [hV] at hT
  clear hr hg H HS
  have h := rhashes_any g A c n q11 zs V11 hT.1.1 hT.1.2.1 hq
  obtain ⟨M12, hM12⟩ : ∃ M, V11.heap.size = M := ⟨_, rfl⟩
  have hm12 := hT.room
  rw [hM12] at h hm12
  rcases hP : seqP (hshP zs) zs q11 with _ | ⟨x12, q12⟩
  · have hU : msgP zs p = none := pairP_none2 HP1.out (pairP_none2 HP2.out (pairP_none2 HP3.out (pairP_none2 HP4.out (pairP_none2 HP5.out (pairP_none2 HP6.out (pairP_none2 HP7.out (pairP_none2 HP8.out (pairP_none2 HP9.out (pairP_none2 HP10.out (pairP_none2 HP11.out (pairP_none hP)))))))))))
    rw [hP] at h
    have H := Lib.hid h
    have HG := Lib.hid (And.intro hU hT.1.2.2.1)
    clear h hP hU hT
    go_wp2_with fail
    refine H.out.mono ?_
    intro e w1 hT
    obtain ⟨hg, rfl⟩ := hT.none
    refine ⟨rfl, ?_⟩
    rw [HG.out.1]
    exact took_none (grown_trans HG.out.2 hg)
  rw [hP] at h
  have hgo := ((par_hsh HBY.out).list HBY.out hbig).goes _ _ _ (by omega) hP
  have HP12 := Lib.hid hP
  replace hq : q12 ≤ n := by omega
  have H := Lib.hid h
  have HS := Lib.hid hT
  clear h hP hT hgo
  go_wp2_with fail
  refine H.out.mono ?_
  intro e w12 hT
  obtain ⟨v, rfl, hr, ⟨A12, c12, rfl, hrow⟩, hg⟩ := hT.some
  replace hT := HS.out.call hg hr
  obtain ⟨l12, hl12⟩ : ∃ l, x12.length = l := ⟨_, rfl⟩
  rw [hl12] at hrow ⊢
  replace hT := hT.add hrow (clo_own hm12 _ _ _ _ _)
  clear hrow
  have k0 := hT.1.2.2.2.2.1.cell 13
  have f0 := hT.1.2.2.2.2.1.frozen 13
  simp only [List.getElem?_cons_zero, List.getElem?_cons_succ] at k0
  replace hT := hT.set 13 (.slice A12 l12 c12)
  simp only [List.set_cons_zero, List.set_cons_succ] at hT
  obtain ⟨V12, hV⟩ : ∃ V, w12.setCell ⟨B + 1, 13, none⟩ (.slice A12 l12 c12) = V := ⟨_, rfl⟩
  rw [hV] at hT
  clear hr hg H HS
  have h := rwholes_any g A c n q12 zs V12 hT.1.1 hT.1.2.1 hq
  obtain ⟨M13, hM13⟩ : ∃ M, V12.heap.size = M := ⟨_, rfl⟩
  have hm13 := hT.room
  rw [hM13] at h hm13
  rcases hP : seqP (upP 2147483647 zs) zs q12 with _ | ⟨x13, q13⟩
  · have hU : msgP zs p = none := pairP_none2 HP1.out (pairP_none2 HP2.out (pairP_none2 HP3.out (pairP_none2 HP4.out (pairP_none2 HP5.out (pairP_none2 HP6.out (pairP_none2 HP7.out (pairP_none2 HP8.out (pairP_none2 HP9.out (pairP_none2 HP10.out (pairP_none2 HP11.out (pairP_none2 HP12.out (hP))))))))))))
    rw [hP] at h
    have H := Lib.hid h
    have HG := Lib.hid (And.intro hU hT.1.2.2.1)
    clear h hP hU hT
    go_wp2_with fail
    refine H.out.mono ?_
    intro e w1 hT
    obtain ⟨hg, rfl⟩ := hT.none
    refine ⟨rfl, ?_⟩
    rw [HG.out.1]
    exact took_none (grown_trans HG.out.2 hg)
  rw [hP] at h
  have hgo := ((par_up HBY.out (by omega)).list HBY.out hbig).goes _ _ _ (by omega) hP
  have HP13 := Lib.hid hP
  replace hq : q13 ≤ n := by omega
  have H := Lib.hid h
  have HS := Lib.hid hT
  clear h hP hT hgo
  go_wp2_with fail
  refine H.out.mono ?_
  intro e w13 hT
  obtain ⟨v, rfl, hr, ⟨A13, c13, rfl, hrow⟩, hg⟩ := hT.some
  replace hT := HS.out.call hg hr
  obtain ⟨l13, hl13⟩ : ∃ l, x13.length = l := ⟨_, rfl⟩
  rw [hl13] at hrow ⊢
  replace hT := hT.add hrow (clo_own hm13 _ _ _ _ _)
  clear hrow
  have k0 := hT.1.2.2.2.2.1.cell 14
  have f0 := hT.1.2.2.2.2.1.frozen 14
  simp only [List.getElem?_cons_zero, List.getElem?_cons_succ] at k0
  replace hT := hT.set 14 (.slice A13 l13 c13)
  simp only [List.set_cons_zero, List.set_cons_succ] at hT
  obtain ⟨V13, hV⟩ : ∃ V, w13.setCell ⟨B + 1, 14, none⟩ (.slice A13 l13 c13) = V := ⟨_, rfl⟩
  rw [hV] at hT
  clear hr hg H HS
  obtain ⟨hX, hXg, hwX, hrX, hO⟩ := hT.fill [.int .i64 x1, .int .i64 x2, .int .i64 z2, .int .i64 x3, .int .i64 z3, .int .i64 x4, .int .i64 x5, .int .i64 x6, .int .i64 x7, .string x8, .slice A9 l9 c9, .slice A10 l10 c10, .slice A11 l11 c11, .slice A12 l12 c12, .slice A13 l13 c13] rfl
  have k0 := hT.1.2.2.2.2.1.cell 0
  have y0 := hT.1.2.2.2.1.cell 0
  have f0 := hT.1.2.2.2.1.frozen 0
  have k1 := hT.1.2.2.2.2.1.cell 1
  have y1 := hT.1.2.2.2.1.cell 1
  have f1 := hT.1.2.2.2.1.frozen 1
  have k2 := hT.1.2.2.2.2.1.cell 2
  have y2 := hT.1.2.2.2.1.cell 2
  have f2 := hT.1.2.2.2.1.frozen 2
  have k3 := hT.1.2.2.2.2.1.cell 3
  have y3 := hT.1.2.2.2.1.cell 3
  have f3 := hT.1.2.2.2.1.frozen 3
  have k4 := hT.1.2.2.2.2.1.cell 4
  have y4 := hT.1.2.2.2.1.cell 4
  have f4 := hT.1.2.2.2.1.frozen 4
  have k5 := hT.1.2.2.2.2.1.cell 5
  have y5 := hT.1.2.2.2.1.cell 5
  have f5 := hT.1.2.2.2.1.frozen 5
  have k6 := hT.1.2.2.2.2.1.cell 6
  have y6 := hT.1.2.2.2.1.cell 6
  have f6 := hT.1.2.2.2.1.frozen 6
  have k7 := hT.1.2.2.2.2.1.cell 7
  have y7 := hT.1.2.2.2.1.cell 7
  have f7 := hT.1.2.2.2.1.frozen 7
  have k8 := hT.1.2.2.2.2.1.cell 8
  have y8 := hT.1.2.2.2.1.cell 8
  have f8 := hT.1.2.2.2.1.frozen 8
  have k9 := hT.1.2.2.2.2.1.cell 9
  have y9 := hT.1.2.2.2.1.cell 9
  have f9 := hT.1.2.2.2.1.frozen 9
  have k10 := hT.1.2.2.2.2.1.cell 10
  have y10 := hT.1.2.2.2.1.cell 10
  have f10 := hT.1.2.2.2.1.frozen 10
  have k11 := hT.1.2.2.2.2.1.cell 11
  have y11 := hT.1.2.2.2.1.cell 11
  have f11 := hT.1.2.2.2.1.frozen 11
  have k12 := hT.1.2.2.2.2.1.cell 12
  have y12 := hT.1.2.2.2.1.cell 12
  have f12 := hT.1.2.2.2.1.frozen 12
  have k13 := hT.1.2.2.2.2.1.cell 13
  have y13 := hT.1.2.2.2.1.cell 13
  have f13 := hT.1.2.2.2.1.frozen 13
  have k14 := hT.1.2.2.2.2.1.cell 14
  have y14 := hT.1.2.2.2.1.cell 14
  have f14 := hT.1.2.2.2.1.frozen 14
  obtain ⟨X, hXe⟩ : ∃ X, V13.setCells B 0 [.int .i64 x1, .int .i64 x2, .int .i64 z2, .int .i64 x3, .int .i64 z3, .int .i64 x4, .int .i64 x5, .int .i64 x6, .int .i64 x7, .string x8, .slice A9 l9 c9, .slice A10 l10 c10, .slice A11 l11 c11, .slice A12 l12 c12, .slice A13 l13 c13] = X := ⟨_, rfl⟩
  rw [hXe] at hX hXg hwX hrX hO
  have j0 := hX.cell 0
  have j1 := hX.cell 1
  have j2 := hX.cell 2
  have j3 := hX.cell 3
  have j4 := hX.cell 4
  have j5 := hX.cell 5
  have j6 := hX.cell 6
  have j7 := hX.cell 7
  have j8 := hX.cell 8
  have j9 := hX.cell 9
  have j10 := hX.cell 10
  have j11 := hX.cell 11
  have j12 := hX.cell 12
  have j13 := hX.cell 13
  have j14 := hX.cell 14
  simp only [List.getElem?_cons_zero, List.getElem?_cons_succ] at k0 k1 k2 k3 k4 k5 k6 k7 k8 k9 k10 k11 k12 k13 k14 y0 y1 y2 y3 y4 y5 y6 y7 y8 y9 y10 y11 y12 y13 y14 j0 j1 j2 j3 j4 j5 j6 j7 j8 j9 j10 j11 j12 j13 j14
  have hX' : ((((((((((((((V13.setCell ⟨B, 0, none⟩ (.int .i64 x1)).setCell ⟨B, 1, none⟩ (.int .i64 x2)).setCell ⟨B, 2, none⟩ (.int .i64 z2)).setCell ⟨B, 3, none⟩ (.int .i64 x3)).setCell ⟨B, 4, none⟩ (.int .i64 z3)).setCell ⟨B, 5, none⟩ (.int .i64 x4)).setCell ⟨B, 6, none⟩ (.int .i64 x5)).setCell ⟨B, 7, none⟩ (.int .i64 x6)).setCell ⟨B, 8, none⟩ (.int .i64 x7)).setCell ⟨B, 9, none⟩ (.string x8)).setCell ⟨B, 10, none⟩ (.slice A9 l9 c9)).setCell ⟨B, 11, none⟩ (.slice A10 l10 c10)).setCell ⟨B, 12, none⟩ (.slice A11 l11 c11)).setCell ⟨B, 13, none⟩ (.slice A12 l12 c12)).setCell ⟨B, 14, none⟩ (.slice A13 l13 c13) = X := hXe
  have hU : msgP zs p = some ((x1, (x2, z2), (x3, z3), x4, x5, x6, x7, x8, x9, x10, x11, x12, x13), q13) := pairP_some HP1.out (pairP_some HP2.out (pairP_some HP3.out (pairP_some HP4.out (pairP_some HP5.out (pairP_some HP6.out (pairP_some HP7.out (pairP_some HP8.out (pairP_some HP9.out (pairP_some HP10.out (pairP_some HP11.out (pairP_some HP12.out (HP13.out))))))))))))
  have HF := Lib.hid (And.intro hwX (And.intro hrX (And.intro hU (And.intro hO (And.intro hps hlc)))))
  clear hwX hrX hU hXe hX hXg hO hT hps hlc HP1 HP2 HP3 HP4 HP5 HP6 HP7 HP8 HP9 HP10 HP11 HP12 HP13 HBY
  go_wp2_with fail
  refine bodyPost_ret (v := .agg #[.int .i64 x1, .int .i64 x2, .int .i64 z2, .int .i64 x3, .int .i64 z3, .int .i64 x4, .int .i64 x5, .int .i64 x6, .int .i64 x7, .string x8, .slice A9 l9 c9, .slice A10 l10 c10, .slice A11 l11 c11, .slice A12 l12 c12, .slice A13 l13 c13]) ?_ rfl ?_
  · rw [results_cell1 rfl]
    go_simp
  · rw [HF.out.2.2.1, hB]
    obtain ⟨⟨⟨⟨⟨_, o9⟩, o10⟩, o11⟩, o12⟩, o13⟩ := HF.out.2.2.2.1
    subst hl9 hl10 hl11 hl12 hl13
    exact took_some HF.out.1 HF.out.2.1 ⟨((A9, c9), (A10, c10), (A11, c11), (A12, c12), (A13, c13)), rfl, ⟨HF.out.2.2.2.2.2, ps, HF.out.2.2.2.2.1, o9.less (by omega)⟩, own_base o10 (by omega), own_base o11 (by omega), own_base o12 (by omega), own_base o13 (by omega)⟩
end Code
end Go.Proofs.YtegiigeelcnemaaGreat
