/-
  The reader of layer 6: addresses, hashes, versions and records.
-/
import Derived.Test.YtegiigeelcnemaaGreatCodeRows
namespace Go.Proofs.YtegiigeelcnemaaGreat
namespace Code
open Go.RowKit Num Span Vers
attribute [local go_sem ↓] Go.wp_at_zero Go.wp_at_succ

def adV (a : Int × Int) (v : Value) (_ : World) : Prop := v = .agg #[.int .i64 a.1, .int .i64 a.2]

set_option maxRecDepth 100000 in
theorem raddr_any (g : Nat) (A : Option Addr) (c n p : Nat) (zs : List Int) (w : World) (hs : Src g A c n zs w) (hr : Rd g A c n p w) (hp : p ≤ n) :
    Calls Tryz.prog 95 #[.pointer (some ⟨g, 0, none⟩)] w (Took g A c n w (addrP zs p) adV) := by
  have hlt := hr.lt
  obtain ⟨W, hW⟩ : ∃ W, w.alloc (.cells #[.int .i64 0, .int .i64 0] 40) = W := ⟨_, rfl⟩
  have hgW : w.grownBy W (some g) := by rw [← hW]; exact World.grownBy_alloc _ _ _
  have hsW := hs.kept hgW hlt
  have hrW : Rd g A c n p W := by rw [← hW]; exact hr.alloc _
  have hB : Bn w.heap.size 40 [.int .i64 0, .int .i64 0] W := by rw [← hW]; exact heap_alloc_new _ _
  have hBg : w.heap.size ≠ g := by omega
  have hby := hs.2.1
  have hn := hs.2.2.1
  obtain ⟨B, hBe⟩ : ∃ B, w.heap.size = B := ⟨_, rfl⟩
  rw [hBe] at hB hBg
  have hne : some B ≠ some g := by simpa using hBg
  have hltW := hrW.lt
  have h1 := whole_any g A c n p zs W hsW hrW hp
  rcases hP1 : upP 2147483647 zs p with _ | ⟨s, q⟩
  · have hU : addrP zs p = none := by unfold addrP; rw [hP1]
    rw [hU]
    rw [hP1] at h1
    have H1 := Lib.hid h1
    have HG := Lib.hid hgW
    clear h1 hP1 hU hs hr hsW hrW hby hgW hB
    go_enter Tryz.func95, Tryz.ntmps95
    go_wp2_with fail
    refine H1.out.mono ?_
    intro e w1 hT
    obtain ⟨hg, rfl⟩ := hT.none
    exact ⟨rfl, took_none (grown_trans HG.out hg)⟩
  · rw [hP1] at h1
    obtain ⟨a1, a2, a3, a4, a5⟩ := upP_ok hby (by omega) hP1
    have hq := std_le a1
    have H1 := Lib.hid h1
    have HS := Lib.hid (And.intro hsW (And.intro hB (And.intro hP1 (And.intro hby (And.intro hgW hn)))))
    clear h1 hP1 hs hr hsW hrW hby hgW hB a1
    go_enter Tryz.func95, Tryz.ntmps95
    go_wp2_with fail
    refine H1.out.mono ?_
    intro e w1 hT
    obtain ⟨v, rfl, hr1, rfl, hg1⟩ := hT.some
    obtain ⟨hsW, hB, hP1, hby, hgW, hn⟩ := HS.out
    have hs1 := hsW.kept hg1 hltW
    have hB1 := hB.kept hg1 hne
    have hgW1 := grown_trans hgW hg1
    have h2 := whole_any g A c n q zs w1 hs1 hr1 (by omega)
    rcases hP2 : upP 2147483647 zs q with _ | ⟨f, r⟩
    · have hU : addrP zs p = none := by unfold addrP; simp only [hP1, hP2]
      rw [hP2] at h2
      have H2 := Lib.hid h2
      have HU := Lib.hid (And.intro hU hgW1)
      clear h2 hP2 hP1 hU hr1 hs1 hB1 hgW1 hB hsW hby hgW hT hg1 HS H1
      go_wp2_with fail
      refine H2.out.mono ?_
      intro e w2 hT
      obtain ⟨hg, rfl⟩ := hT.none
      refine ⟨rfl, ?_⟩
      rw [HU.out.1]
      exact took_none (grown_trans HU.out.2 hg)
    · have hU : addrP zs p = some ((s, f), r) := by unfold addrP; simp only [hP1, hP2]
      rw [hP2] at h2
      obtain ⟨b1, b2, b3, b4, b5⟩ := upP_ok hby (by omega) hP2
      have hlt1 := hr1.lt
      have H2 := Lib.hid h2
      have HS := Lib.hid (And.intro hB1 (And.intro hgW1 hU))
      clear h2 hP2 hP1 hU hr1 hs1 hB1 hgW1 hB hsW hby hgW hT hg1 H1 b1
      go_wp2_with fail
      refine H2.out.mono ?_
      intro e w2 hT
      obtain ⟨v, rfl, hr2, rfl, hg2⟩ := hT.some
      obtain ⟨hB1, hgW1, hU⟩ := HS.out
      have hB2 := hB1.kept hg2 hne
      have hgW2 := grown_trans hgW1 hg2
      have k0 := hB2.cell 0
      have k1 := hB2.cell 1
      simp only [List.getElem?_cons_zero, List.getElem?_cons_succ] at k0 k1
      have f0 := hB2.frozen 0
      have f1 := hB2.frozen 1
      have hset := setCells_all (old := [.int .i64 0, .int .i64 0]) (vs := [.int .i64 s, .int .i64 f]) rfl hB2
      have hsg := setCells_grown B [.int .i64 s, .int .i64 f] 0 w2
      obtain ⟨X, hX⟩ : ∃ X, w2.setCells B 0 [.int .i64 s, .int .i64 f] = X := ⟨_, rfl⟩
      rw [hX] at hset hsg
      have j0 := hset.cell 0
      have j1 := hset.cell 1
      simp only [List.getElem?_cons_zero, List.getElem?_cons_succ] at j0 j1
      have hX' : (w2.setCell ⟨B, 0, none⟩ (.int .i64 s)).setCell ⟨B, 1, none⟩ (.int .i64 f) = X := hX
      have HF := Lib.hid (And.intro hr2 (And.intro hgW2 (And.intro hU hsg)))
      clear hr2 hgW2 hU hB1 hgW1 hT hg2 hB2 HS H2 hset hsg hX
      go_wp2_with fail
      have hG : w.grownBy X (some g) := grown_fresh HF.out.2.1 HF.out.2.2.2 (by omega)
      have hR : Rd g A c n r X := HF.out.1.kept HF.out.2.2.2 (Ne.symm hne)
      have HX := Lib.hid (And.intro hG hR)
      clear hG hR hX'
      refine bodyPost_ret (v := .agg #[.int .i64 s, .int .i64 f]) ?_ rfl ?_
      · rw [results_cell1 rfl]
        go_simp
      · rw [HF.out.2.2.1]
        exact took_some HX.out.1 HX.out.2 rfl

def u64V (x : Int) (v : Value) (_ : World) : Prop := v = .int .u64 x
theorem ofInt_nat64 (a : Nat) (ha : a < 18446744073709551616) : (BitVec.ofInt 64 (a : Int)).toNat = a := by
  rw [BitVec.ofInt_natCast, BitVec.toNat_ofNat]; exact Nat.mod_eq_of_lt (by omega)
theorem hsh_join {u l : Int} (hu : 0 ≤ u ∧ u ≤ 4294967295) (hl : 0 ≤ l ∧ l ≤ 4294967295) : bits .or .u64 (u * 4294967296) l = u * 4294967296 + l := by
  obtain ⟨m, rfl⟩ := Int.eq_ofNat_of_zero_le hu.1
  obtain ⟨y, rfl⟩ := Int.eq_ofNat_of_zero_le hl.1
  have e1 : (m : Int) * 4294967296 = ((m * 4294967296 : Nat) : Int) := by rw [Int.natCast_mul]; rfl
  have hx : m * 4294967296 ||| y < 2 ^ 64 := Nat.or_lt_two_pow (by omega) (by omega)
  rw [e1]
  show IntKind.u64.wrap ((BitVec.ofInt 64 ((m * 4294967296 : Nat) : Int) ||| BitVec.ofInt 64 (y : Int)).toNat : Int) = _
  rw [BitVec.toNat_or, ofInt_nat64 _ (by omega), ofInt_nat64 _ (by omega), show IntKind.u64.wrap ((m * 4294967296 ||| y : Nat) : Int) = ((m * 4294967296 ||| y : Nat) : Int) from (Int.emod_eq_of_lt (by omega) (by omega) : ((m * 4294967296 ||| y : Nat) : Int) % 18446744073709551616 = _)]
  have := Nat.two_pow_add_eq_or_of_lt (i := 32) (b := y) (by omega) m
  have h2 : m * 4294967296 ||| y = m * 4294967296 + y := by
    rw [Nat.mul_comm m]
    exact this.symm
  rw [h2, Int.natCast_add]

set_option maxRecDepth 100000 in
theorem rhash_any (g : Nat) (A : Option Addr) (c n p : Nat) (zs : List Int) (w : World) (hs : Src g A c n zs w) (hr : Rd g A c n p w) (hp : p ≤ n) :
    Calls Tryz.prog 101 #[.pointer (some ⟨g, 0, none⟩)] w (Took g A c n w (hshP zs p) u64V) := by
  have hlt := hr.lt
  have hby := hs.2.1
  have hn := hs.2.2.1
  have h1 := upTo_any g A c n p zs 4294967295 w hs hr hp
  rcases hP1 : upP 4294967295 zs p with _ | ⟨s, q⟩
  · have hU : hshP zs p = none := by unfold hshP; rw [hP1]
    rw [hU]
    rw [hP1] at h1
    have H1 := Lib.hid h1
    clear h1 hP1 hU hs hr hby
    go_enter Tryz.func101, Tryz.ntmps101
    go_wp2_with fail
    refine H1.out.mono ?_
    intro e w1 hT
    obtain ⟨hg, rfl⟩ := hT.none
    exact ⟨rfl, took_none hg⟩
  · rw [hP1] at h1
    obtain ⟨a1, a2, a3, a4, a5⟩ := upP_ok hby (by omega) hP1
    have hq := std_le a1
    have H1 := Lib.hid h1
    have HS := Lib.hid (And.intro hs (And.intro hP1 hby))
    clear h1 hP1 hs hr hby a1
    go_enter Tryz.func101, Tryz.ntmps101
    go_wp2_with fail
    refine H1.out.mono ?_
    intro e w1 hT
    obtain ⟨v, rfl, hr1, rfl, hg1⟩ := hT.some
    obtain ⟨hs, hP1, hby⟩ := HS.out
    have hs1 := hs.kept hg1 hlt
    have h2 := upTo_any g A c n q zs 4294967295 w1 hs1 hr1 (by omega)
    rcases hP2 : upP 4294967295 zs q with _ | ⟨f, r⟩
    · have hU : hshP zs p = none := by unfold hshP; simp only [hP1, hP2]
      rw [hP2] at h2
      have H2 := Lib.hid h2
      have HU := Lib.hid (And.intro hU hg1)
      clear h2 hP2 hP1 hU hr1 hs1 hs hby hT hg1 HS H1
      go_wp2_with fail
      refine H2.out.mono ?_
      intro e w2 hT
      obtain ⟨hg, rfl⟩ := hT.none
      refine ⟨rfl, ?_⟩
      rw [HU.out.1]
      exact took_none (grown_trans HU.out.2 hg)
    · have hU : hshP zs p = some (s * 4294967296 + f, r) := by unfold hshP; simp only [hP1, hP2]
      rw [hP2] at h2
      obtain ⟨b1, b2, b3, b4, b5⟩ := upP_ok hby (by omega) hP2
      have H2 := Lib.hid h2
      have HS := Lib.hid (And.intro hg1 hU)
      clear h2 hP2 hP1 hU hr1 hs1 hs hby hT hg1 H1 b1
      go_wp2_with fail
      refine H2.out.mono ?_
      intro e w2 hT
      obtain ⟨v, rfl, hr2, rfl, hg2⟩ := hT.some
      have HF := Lib.hid (And.intro (grown_trans HS.out.1 hg2) (And.intro hr2 HS.out.2))
      clear hr2 hT hg2 HS H2
      go_wp2_with fail
      go_ret
      rw [HF.out.2.2]
      refine took_some HF.out.1 HF.out.2.1 ?_
      show Value.int .u64 (bits .or .u64 (s * 4294967296) f) = _
      rw [hsh_join ⟨a3, a4⟩ ⟨b3, b4⟩]

/-- Where the reader of a version is: only the reader's own block is turned, and the two new blocks hold z and vs. -/
def St (g : Nat) (A : Option Addr) (c n : Nat) (zs : List Int) (T : TypeId) (z vs : List Value) (w : World) (B p : Nat) (x : World) : Prop :=
  Src g A c n zs x ∧ Rd g A c n p x ∧ w.grownBy x (some g) ∧ Bn B T z x ∧ Bn (B + 1) T vs x ∧ (w.heap.size = B ∧ g < B)
section
variable {g c n B p q : Nat} {A : Option Addr} {zs : List Int} {T : TypeId} {z vs : List Value} {w x x' : World}
theorem St.call (h : St g A c n zs T z vs w B p x) (hg : x.grownBy x' (some g)) (hr : Rd g A c n q x') : St g A c n zs T z vs w B q x' := by
  obtain ⟨h1, h2, h3, h4, h5, h6⟩ := h
  exact ⟨h1.kept hg h2.lt, hr, grown_trans h3 hg, h4.kept hg (by intro e; injection e with e; omega), h5.kept hg (by intro e; injection e with e; omega), h6⟩
theorem St.set (h : St g A c n zs T z vs w B p x) (k : Nat) (v : Value) : St g A c n zs T z (vs.set k v) w B p (x.setCell ⟨B + 1, k, none⟩ v) := by
  obtain ⟨h1, h2, h3, h4, h5, h6⟩ := h
  have hgr := grown_set1 x (B + 1) k v
  have hlt := h2.lt
  refine ⟨⟨h1.1.grown hgr (by omega) (fun k hk => by injection hk with hk; omega), h1.2⟩, h2.kept hgr (by intro e; injection e with e; omega), grown_fresh h3 hgr (by omega), h4.kept hgr (by intro e; injection e with e; omega), h5.set k v, h6⟩
theorem St.fill (h : St g A c n zs T z vs w B p x) (us : List Value) (hl : z.length = us.length) : Src g A c n zs x ∧ Bn B T us (x.setCells B 0 us) ∧ x.grownBy (x.setCells B 0 us) (some B) ∧ w.grownBy (x.setCells B 0 us) (some g) ∧ Rd g A c n p (x.setCells B 0 us) := by
  obtain ⟨h1, h2, h3, h4, h5, h6⟩ := h
  have hgr := setCells_grown B us 0 x
  exact ⟨h1, setCells_all hl h4, hgr, grown_fresh h3 hgr (by omega), h2.kept hgr (by intro e; injection e with e; omega)⟩
end

/-- A version of the call's own. -/
def verV (B : Nat) (x : Vr) (v : Value) (w' : World) : Prop := ∃ A c, v = vv A c x ∧ VerO w' B w'.heap.size (x, A, c)
theorem verO_mk {x : Vr} {w' : World} {B M c : Nat} {A : Option Addr} (ho : w'.ownsRow M 70 3 (.slice A x.past.length c) x.past.length (sps x.past)) (hM : B ≤ M) (hn : x.past.length ≤ 140737488355328) (hv : x.val.size ≤ 140737488355328) : VerO w' B w'.heap.size (x, A, c) := by
  refine ⟨⟨own_ss ho, ?_, hn, hv, fun _ a ha => ?_⟩, own_base ho hM, fun g hg => (ho.lt g hg).2⟩
  · show x.past.length ≤ c
    rcases ho.2 with ⟨hv0, h0⟩ | ⟨g, cap, cur, he, _, _, rest⟩
    · omega
    · injection he with e1 e2 e3
      omega
  · have hb := ho.lt a.block (by subst ha; rfl)
    omega
set_option maxRecDepth 100000 in
set_option maxHeartbeats 1000000 in
theorem rver_any (g : Nat) (A : Option Addr) (c n p : Nat) (zs : List Int) (w : World) (hs : Src g A c n zs w) (hr : Rd g A c n p w) (hp : p ≤ n) :
    Calls Tryz.prog 68 #[.pointer (some ⟨g, 0, none⟩)] w (Took g A c n w (verP zs p) (verV w.heap.size)) := by
  have hlt := hr.lt
  have hby := hs.2.1
  have hn := hs.2.2.1
  have hbig := hs.2.2.2.2
  obtain ⟨B, hB⟩ : ∃ B, w.heap.size = B := ⟨_, rfl⟩
  have hBg : B ≠ g := by omega
  obtain ⟨W, hW⟩ : ∃ W, (w.alloc (.cells #[.int .i64 0, .int .i64 0, .slice none 0 0, .bool false, .string ⟨#[]⟩] 105)).alloc (.cells #[.int .i64 0, .int .i64 0, .slice none 0 0, .bool false, .string ⟨#[]⟩] 105) = W := ⟨_, rfl⟩
  have hgW : w.grownBy W (some g) := by rw [← hW]; exact grown_trans (World.grownBy_alloc _ _ _) (World.grownBy_alloc _ _ _)
  have hS : St g A c n zs 105 [.int .i64 0, .int .i64 0, .slice none 0 0, .bool false, .string ⟨#[]⟩] [.int .i64 0, .int .i64 0, .slice none 0 0, .bool false, .string ⟨#[]⟩] w B p W := by
    refine ⟨hs.kept hgW hlt, ?_, hgW, ?_, ?_, hB, by omega⟩
    · rw [← hW]; exact (hr.alloc _).alloc _
    · rw [← hW, ← hB]; exact Bn.kept (heap_alloc_new _ _) (World.grownBy_alloc _ _ none) (by simp)
    · rw [← hW, ← hB]
      have := heap_alloc_new (w.alloc (.cells #[.int .i64 0, .int .i64 0, .slice none 0 0, .bool false, .string ⟨#[]⟩] 105)) (.cells #[.int .i64 0, .int .i64 0, .slice none 0 0, .bool false, .string ⟨#[]⟩] 105)
      rw [World.size_alloc] at this
      exact this
  have h1 := whole_any g A c n p zs W hS.1 hS.2.1 hp
  rcases hP1 : upP 2147483647 zs p with _ | ⟨s, q1⟩
  · have hU : verP zs p = none := by unfold verP; rw [hP1]
    rw [hU]
    rw [hP1] at h1
    have H1 := Lib.hid h1
    have HG := Lib.hid hgW
    clear h1 hP1 hU hs hr hgW hS hby
    go_enter Tryz.func68, Tryz.ntmps68
    go_wp2_with fail
    refine H1.out.mono ?_
    intro e w1 hT
    obtain ⟨hg, rfl⟩ := hT.none
    exact ⟨rfl, took_none (grown_trans HG.out hg)⟩
  rw [hP1] at h1
  obtain ⟨a1, a2, a3, a4, a5⟩ := upP_ok hby (by omega) hP1
  have hq1 := std_le a1
  have hq1n : q1 ≤ n := by omega
  have H1 := Lib.hid h1
  have HS := Lib.hid (And.intro hS (And.intro hP1 hby))
  clear h1 hP1 hs hr hgW hS hby a1 a2 a3 a4 a5 hq1
  go_enter Tryz.func68, Tryz.ntmps68
  go_wp2_with fail
  refine H1.out.mono ?_
  intro e w1 hT
  obtain ⟨v, rfl, hr1, rfl, hg1⟩ := hT.some
  obtain ⟨hS, hP1, hby⟩ := HS.out
  have hS1 := hS.call hg1 hr1
  have k0 := hS1.2.2.2.2.1.cell 0
  have f0 := hS1.2.2.2.2.1.frozen 0
  simp only [List.getElem?_cons_zero] at k0
  obtain ⟨V1, hV1⟩ : ∃ V1, w1.setCell ⟨B + 1, 0, none⟩ (.int .i64 s) = V1 := ⟨_, rfl⟩
  have hT1 := hS1.set 0 (.int .i64 s)
  rw [hV1] at hT1
  simp only [List.set_cons_zero] at hT1
  have h2 := rnum_any g A c n q1 zs V1 hT1.1 hT1.2.1 hq1n
  rcases hP2 : numP zs q1 with _ | ⟨m, q2⟩
  · have hU : verP zs p = none := by unfold verP; simp only [hP1, hP2]
    rw [hP2] at h2
    have H2 := Lib.hid h2
    have HG := Lib.hid (And.intro hU hT1.2.2.1)
    clear h2 hP1 hP2 hU hS1 hT1 hS hr1 hg1 hT H1 HS hby
    go_wp2_with fail
    refine H2.out.mono ?_
    intro e w2 hT
    obtain ⟨hg, rfl⟩ := hT.none
    refine ⟨rfl, ?_⟩
    rw [HG.out.1]
    exact took_none (grown_trans HG.out.2 hg)
  rw [hP2] at h2
  obtain ⟨a1, a2, a3, a4⟩ := numP_ok hby (by omega) hP2
  have hq2 := std_le a1
  have hq2n : q2 ≤ n := by omega
  have H2 := Lib.hid h2
  have HS := Lib.hid (And.intro hT1 (And.intro hP1 (And.intro hP2 hby)))
  clear h2 hP1 hP2 hS1 hT1 hS hr1 hg1 hT H1 hby a1 a2 a3 a4 hq2
  go_wp2_with fail
  refine H2.out.mono ?_
  intro e w2 hT
  obtain ⟨v, rfl, hr2, rfl, hg2⟩ := hT.some
  obtain ⟨hT1, hP1, hP2, hby⟩ := HS.out
  have hS2 := hT1.call hg2 hr2
  have k0 := hS2.2.2.2.2.1.cell 1
  have f0 := hS2.2.2.2.2.1.frozen 1
  simp only [List.getElem?_cons_zero, List.getElem?_cons_succ] at k0
  obtain ⟨V2, hV2⟩ : ∃ V2, w2.setCell ⟨B + 1, 1, none⟩ (.int .i64 m) = V2 := ⟨_, rfl⟩
  have hT2 := hS2.set 1 (.int .i64 m)
  rw [hV2] at hT2
  simp only [List.set_cons_zero, List.set_cons_succ] at hT2
  have h3 := rset_any g A c n q2 zs V2 hT2.1 hT2.2.1 hq2n
  have hM : B + 2 ≤ V2.heap.size := hT2.2.2.2.2.1.lt
  rcases hP3 : setP zs q2 with _ | ⟨l, q3⟩
  · have hU : verP zs p = none := by unfold verP; simp only [hP1, hP2, hP3]
    rw [hP3] at h3
    have H3 := Lib.hid h3
    have HG := Lib.hid (And.intro hU hT2.2.2.1)
    clear h3 hP1 hP2 hP3 hU hS2 hT1 hT2 hr2 hg2 hT H2 HS hby
    go_wp2_with fail
    refine H3.out.mono ?_
    intro e w3 hT
    obtain ⟨hg, rfl⟩ := hT.none
    refine ⟨rfl, ?_⟩
    rw [HG.out.1]
    exact took_none (grown_trans HG.out.2 hg)
  rw [hP3] at h3
  have hl3 := setP_len hby (by omega) hP3
  have hq3n : q3 ≤ n := by omega
  have H3 := Lib.hid h3
  have HS := Lib.hid (And.intro hT2 (And.intro hP1 (And.intro hP2 (And.intro hP3 (And.intro hby hM)))))
  clear h3 hP1 hP2 hP3 hS2 hT1 hT2 hr2 hg2 hT H2 hby hM
  go_wp2_with fail
  refine H3.out.mono ?_
  intro e w3 hT
  obtain ⟨v, rfl, hr3, ⟨A', c', rfl, ho3⟩, hg3⟩ := hT.some
  obtain ⟨hT2, hP1, hP2, hP3, hby, hM⟩ := HS.out
  obtain ⟨M, hMe⟩ : ∃ M, V2.heap.size = M := ⟨_, rfl⟩
  rw [hMe] at ho3 hM
  have hS3 := hT2.call hg3 hr3
  have k0 := hS3.2.2.2.2.1.cell 2
  have f0 := hS3.2.2.2.2.1.frozen 2
  simp only [List.getElem?_cons_zero, List.getElem?_cons_succ] at k0
  obtain ⟨V3, hV3⟩ : ∃ V3, w3.setCell ⟨B + 1, 2, none⟩ (.slice A' l.length c') = V3 := ⟨_, rfl⟩
  have hT3 := hS3.set 2 (.slice A' l.length c')
  have ho4 := ho3.kept (grown_set1 w3 (B + 1) 2 (.slice A' l.length c')) (own_apart ho3 (by omega))
  rw [hV3] at hT3 ho4
  simp only [List.set_cons_zero, List.set_cons_succ] at hT3
  have h4 := upTo_any g A c n q3 zs 1 V3 hT3.1 hT3.2.1 hq3n
  rcases hP4 : upP 1 zs q3 with _ | ⟨k, q4⟩
  · have hU : verP zs p = none := by unfold verP tailP; simp only [hP1, hP2, hP3, hP4]
    rw [hP4] at h4
    have H4 := Lib.hid h4
    have HG := Lib.hid (And.intro hU hT3.2.2.1)
    clear h4 hP1 hP2 hP3 hP4 hU hS3 hT2 hT3 hr3 hg3 hT H3 HS hby ho3 ho4
    go_wp2_with fail
    refine H4.out.mono ?_
    intro e w4 hT
    obtain ⟨hg, rfl⟩ := hT.none
    refine ⟨rfl, ?_⟩
    rw [HG.out.1]
    exact took_none (grown_trans HG.out.2 hg)
  rw [hP4] at h4
  obtain ⟨a1, a2, a3, a4, a5⟩ := upP_ok hby (by omega) hP4
  have hq4 := std_le a1
  have hq4n : q4 ≤ n := by omega
  have H4 := Lib.hid h4
  have HS := Lib.hid (And.intro hT3 (And.intro hP1 (And.intro hP2 (And.intro hP3 (And.intro hP4 (And.intro hby ho4))))))
  clear h4 hP1 hP2 hP3 hP4 hS3 hT2 hT3 hr3 hg3 hT H3 hby a1 a2 hq4 ho3 ho4
  go_wp2_with fail
  refine H4.out.mono ?_
  intro e w4 hT
  obtain ⟨v, rfl, hr4, rfl, hg4⟩ := hT.some
  obtain ⟨hT3, hP1, hP2, hP3, hP4, hby, ho4⟩ := HS.out
  have hS4 := hT3.call hg4 hr4
  have ho5 := ho4.kept hg4 (own_apart ho4 (by omega))
  have k0 := hS4.2.2.2.2.1.cell 3
  have f0 := hS4.2.2.2.2.1.frozen 3
  simp only [List.getElem?_cons_zero, List.getElem?_cons_succ] at k0
  obtain rfl | rfl : k = 1 ∨ k = 0 := by omega
  · have hU : verP zs p = some (⟨s, m, l, true, ⟨#[]⟩⟩, q4) := by unfold verP tailP; simp only [hP1, hP2, hP3, hP4]; rfl
    obtain ⟨V4, hV4⟩ : ∃ V4, w4.setCell ⟨B + 1, 3, none⟩ (.bool true) = V4 := ⟨_, rfl⟩
    have hT4 := hS4.set 3 (.bool true)
    have ho6 := ho5.kept (grown_set1 w4 (B + 1) 3 (.bool true)) (own_apart ho5 (by omega))
    rw [hV4] at hT4 ho6
    simp only [List.set_cons_zero, List.set_cons_succ] at hT4
    clear hS4 hT3 hP1 hP2 hP3 hP4 ho4 ho5 hr4 hg4 hT H4 HS hby
    obtain ⟨hsrc, hX, hXg, hwX, hrX⟩ := hT4.fill [.int .i64 s, .int .i64 m, .slice A' l.length c', .bool true, .string ⟨#[]⟩] rfl
    have hoX := ho6.kept hXg (own_apart ho6 (by omega))
    have k0 := hT4.2.2.2.2.1.cell 0
    have k1 := hT4.2.2.2.2.1.cell 1
    have k2 := hT4.2.2.2.2.1.cell 2
    have k3 := hT4.2.2.2.2.1.cell 3
    have k4 := hT4.2.2.2.2.1.cell 4
    have z0 := hT4.2.2.2.1.cell 0
    have z1 := hT4.2.2.2.1.cell 1
    have z2 := hT4.2.2.2.1.cell 2
    have z3 := hT4.2.2.2.1.cell 3
    have z4 := hT4.2.2.2.1.cell 4
    have f0 := hT4.2.2.2.1.frozen 0
    have f1 := hT4.2.2.2.1.frozen 1
    have f2 := hT4.2.2.2.1.frozen 2
    have f3 := hT4.2.2.2.1.frozen 3
    have f4 := hT4.2.2.2.1.frozen 4
    obtain ⟨X, hXe⟩ : ∃ X, V4.setCells B 0 [.int .i64 s, .int .i64 m, .slice A' l.length c', .bool true, .string ⟨#[]⟩] = X := ⟨_, rfl⟩
    rw [hXe] at hX hXg hwX hrX hoX
    have j0 := hX.cell 0
    have j1 := hX.cell 1
    have j2 := hX.cell 2
    have j3 := hX.cell 3
    have j4 := hX.cell 4
    simp only [List.getElem?_cons_zero, List.getElem?_cons_succ] at k0 k1 k2 k3 k4 z0 z1 z2 z3 z4 j0 j1 j2 j3 j4
    have hX' : ((((V4.setCell ⟨B, 0, none⟩ (.int .i64 s)).setCell ⟨B, 1, none⟩ (.int .i64 m)).setCell ⟨B, 2, none⟩ (.slice A' l.length c')).setCell ⟨B, 3, none⟩ (.bool true)).setCell ⟨B, 4, none⟩ (.string ⟨#[]⟩) = X := hXe
    have HF := Lib.hid (And.intro hwX (And.intro hrX (And.intro hU hoX)))
    clear hwX hrX hU hoX hXe hX hXg hsrc hT4 ho6
    go_wp2_with fail
    refine bodyPost_ret (v := .agg #[.int .i64 s, .int .i64 m, .slice A' l.length c', .bool true, .string ⟨#[]⟩]) ?_ rfl ?_
    · rw [results_cell1 rfl]
      go_simp
    · rw [HF.out.2.2.1]
      exact took_some HF.out.1 HF.out.2.1 ⟨A', c', rfl, verO_mk HF.out.2.2.2 (by omega) (by simp only; omega) (by simp [ByteArray.size])⟩
  · obtain ⟨V4, hV4⟩ : ∃ V4, w4.setCell ⟨B + 1, 3, none⟩ (.bool false) = V4 := ⟨_, rfl⟩
    have hT4 := hS4.set 3 (.bool false)
    have ho6 := ho5.kept (grown_set1 w4 (B + 1) 3 (.bool false)) (own_apart ho5 (by omega))
    rw [hV4] at hT4 ho6
    simp only [List.set_cons_zero, List.set_cons_succ] at hT4
    have k3 := hT4.2.2.2.2.1.cell 3
    simp only [List.getElem?_cons_zero, List.getElem?_cons_succ] at k3
    have h5 := rtext_any g A c n q4 zs 256 (by omega) V4 hT4.1 hT4.2.1 hq4n
    rcases hP5 : textP 256 zs q4 with _ | ⟨x, q5⟩
    · have hU : verP zs p = none := by unfold verP tailP; simp only [hP1, hP2, hP3, hP4, hP5]; rfl
      rw [hP5] at h5
      have H5 := Lib.hid h5
      have HG := Lib.hid (And.intro hU hT4.2.2.1)
      clear h5 hP1 hP2 hP3 hP4 hP5 hU hS4 hT3 hT4 hr4 hg4 hT H4 HS hby ho4 ho5 ho6
      go_wp2_with fail
      refine H5.out.mono ?_
      intro e w5 hT
      obtain ⟨hg, rfl⟩ := hT.none
      refine ⟨rfl, ?_⟩
      rw [HG.out.1]
      exact took_none (grown_trans HG.out.2 hg)
    · have hU : verP zs p = some (⟨s, m, l, false, strOfNums x⟩, q5) := by unfold verP tailP; simp only [hP1, hP2, hP3, hP4, hP5]; rfl
      rw [hP5] at h5
      obtain ⟨b1, b2, b3, b4⟩ := textP_ok hby (by omega) hP5
      have H5 := Lib.hid h5
      have HS := Lib.hid (And.intro hT4 (And.intro ho6 (And.intro hU b4)))
      clear h5 hP1 hP2 hP3 hP4 hP5 hU hS4 hT3 hT4 hr4 hg4 hT H4 hby ho4 ho5 ho6 b1 b4
      go_wp2_with fail
      refine H5.out.mono ?_
      intro e w5 hT
      obtain ⟨v, rfl, hr5, rfl, hg5⟩ := hT.some
      obtain ⟨hT4, ho6, hU, b4⟩ := HS.out
      have hS5 := hT4.call hg5 hr5
      have ho7 := ho6.kept hg5 (own_apart ho6 (by omega))
      have k0 := hS5.2.2.2.2.1.cell 4
      have f0 := hS5.2.2.2.2.1.frozen 4
      simp only [List.getElem?_cons_zero, List.getElem?_cons_succ] at k0
      obtain ⟨V5, hV5⟩ : ∃ V5, w5.setCell ⟨B + 1, 4, none⟩ (.string (strOfNums x)) = V5 := ⟨_, rfl⟩
      have hT5 := hS5.set 4 (.string (strOfNums x))
      have ho8 := ho7.kept (grown_set1 w5 (B + 1) 4 (.string (strOfNums x))) (own_apart ho7 (by omega))
      rw [hV5] at hT5 ho8
      simp only [List.set_cons_zero, List.set_cons_succ] at hT5
      obtain ⟨hsrc, hX, hXg, hwX, hrX⟩ := hT5.fill [.int .i64 s, .int .i64 m, .slice A' l.length c', .bool false, .string (strOfNums x)] rfl
      have hoX := ho8.kept hXg (own_apart ho8 (by omega))
      have k0 := hT5.2.2.2.2.1.cell 0
      have k1 := hT5.2.2.2.2.1.cell 1
      have k2 := hT5.2.2.2.2.1.cell 2
      have k3 := hT5.2.2.2.2.1.cell 3
      have k4 := hT5.2.2.2.2.1.cell 4
      have z0 := hT5.2.2.2.1.cell 0
      have z1 := hT5.2.2.2.1.cell 1
      have z2 := hT5.2.2.2.1.cell 2
      have z3 := hT5.2.2.2.1.cell 3
      have z4 := hT5.2.2.2.1.cell 4
      have f0 := hT5.2.2.2.1.frozen 0
      have f1 := hT5.2.2.2.1.frozen 1
      have f2 := hT5.2.2.2.1.frozen 2
      have f3 := hT5.2.2.2.1.frozen 3
      have f4 := hT5.2.2.2.1.frozen 4
      obtain ⟨X, hXe⟩ : ∃ X, V5.setCells B 0 [.int .i64 s, .int .i64 m, .slice A' l.length c', .bool false, .string (strOfNums x)] = X := ⟨_, rfl⟩
      rw [hXe] at hX hXg hwX hrX hoX
      have j0 := hX.cell 0
      have j1 := hX.cell 1
      have j2 := hX.cell 2
      have j3 := hX.cell 3
      have j4 := hX.cell 4
      simp only [List.getElem?_cons_zero, List.getElem?_cons_succ] at k0 k1 k2 k3 k4 z0 z1 z2 z3 z4 j0 j1 j2 j3 j4
      have hX' : ((((V5.setCell ⟨B, 0, none⟩ (.int .i64 s)).setCell ⟨B, 1, none⟩ (.int .i64 m)).setCell ⟨B, 2, none⟩ (.slice A' l.length c')).setCell ⟨B, 3, none⟩ (.bool false)).setCell ⟨B, 4, none⟩ (.string (strOfNums x)) = X := hXe
      have HF := Lib.hid (And.intro hwX (And.intro hrX (And.intro hU hoX)))
      clear hwX hrX hU hoX hXe hX hXg hsrc hT5 ho8 hT hS5 ho7 ho6 hr5 hg5 HS H5 hT4
      go_wp2_with fail
      refine bodyPost_ret (v := .agg #[.int .i64 s, .int .i64 m, .slice A' l.length c', .bool false, .string (strOfNums x)]) ?_ rfl ?_
      · rw [results_cell1 rfl]
        go_simp
      · rw [HF.out.2.2.1]
        exact took_some HF.out.1 HF.out.2.1 ⟨A', c', rfl, verO_mk HF.out.2.2.2 (by omega) (by simp only; omega) (by simp only; rw [← strNums_length, strNums_of x b4]; omega)⟩
end Code
end Go.Proofs.YtegiigeelcnemaaGreat
