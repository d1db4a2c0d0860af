/-
  RingKeeps (P12.5): what is handed in stays, and what is told is new memory. For every input.
-/
import Derived.Test.YtfnjengcemokpaaRingAwake
namespace Go.Proofs.Ytfnjengcemokpaa
namespace RingKeeps
open Go.ChangeShapes Go.WideShapes Go.ChangeAt Go.RowKit Ring
attribute [local go_sem ↓] Go.wp_at_zero Go.wp_at_succ

/-- The row that a slice of an order stands in. -/
def Rowed (B : Nat) (A : Option Addr) (c kk : Nat) (V : World) : Prop := ∃ xs, V.ownsRow B 3 1 (.slice A kk c) kk xs
theorem list_rowed {ms L : List Int} {part n : Int} {k kk : Nat} (hL : listF ms part n = L) (hk : L.length = k) (hkk : (ordL ms part).length = kk) (w w' : World) (e : Ending) (h : ListPost ms part n w e w') :
    ∃ A c cx, e = .returned (.slice A k cx) ∧ k ≤ cx ∧ k ≤ kk ∧ kk ≤ 8 ∧ Rowed w.heap.size A c kk w' ∧ Below w.heap.size w w' := by
  obtain ⟨A, c, cx, h1, h2, h3, h4, h5⟩ := h
  have h8 := ord_small h3.out
  have hc := cutF_le n (ordL ms part).length
  have e1 : cutF n (ordL ms part).length = k := by rw [← hk, ← hL, listF_len]
  rw [hkk] at h8
  rw [e1] at h1 h2 hc
  rw [hkk] at hc h4
  exact ⟨A, c, cx, h1, h2, hc, h8, ⟨_, h4⟩, h5⟩
theorem rest_rowed {ms L : List Int} {part n : Int} {k kk : Nat} (hL : listF ms part n = L) (hk : L.length = k) (hkk : (ordL ms part).length = kk) (w w' : World) (e : Ending) (h : RestPost ms part n w e w') :
    ∃ A c cx, e = .returned (.slice (tailA A c k) (kk - k) cx) ∧ kk - k ≤ cx ∧ Rowed w.heap.size A c kk w' ∧ Below w.heap.size w w' := by
  obtain ⟨A, c, cx, h1, h2, h3, h4, h5⟩ := h
  have e1 : cutF n (ordL ms part).length = k := by rw [← hk, ← hL, listF_len]
  rw [e1, hkk] at h1 h2
  rw [hkk] at h4
  exact ⟨A, c, cx, h1, h2, ⟨_, h4⟩, h5⟩
/-- A place of the row: it can be written, and behind it the row still stands. -/
theorem rowed_at {B : Nat} {A : Option Addr} {c kk : Nat} {V : World} (h : Rowed B A c kk V) {j : Nat} (hj : j < kk) :
    ∃ g, A = some ⟨g, 0, none⟩ ∧ B ≤ g ∧ g < V.heap.size ∧ kk ≤ c ∧ (∃ v, V.cell? ⟨g, j, none⟩ = some v) ∧ V.frozen? ⟨g, j, none⟩ = false ∧ ∀ z : Int, Rowed B A c kk (V.setCell ⟨g, j, none⟩ (.int .i64 z)) := by
  obtain ⟨xs, ho⟩ := h
  have hlc := (own_len ho).2
  obtain ⟨g, cap, hA2⟩ : ∃ g cap, A = some ⟨g, 0, none⟩ ∧ c = cap := by
    rcases ho.2 with ⟨_, h0⟩ | ⟨g, cap, cur, hv, _⟩
    · omega
    · injection hv with h1 _ h3
      exact ⟨g, cap, h1, h3⟩
  obtain ⟨rfl, rfl⟩ := hA2
  have hc := ho.cellAt j (by omega)
  have hxs : j < xs.length := by rw [ho.1]; omega
  rw [List.getElem?_eq_getElem hxs] at hc
  have hlt := ho.lt g rfl
  exact ⟨g, rfl, hlt.1, hlt.2, hlc, ⟨_, hc⟩, ho.frozenAt j, fun z => ⟨_, (ho.stored j (.int .i64 z)).1⟩⟩
theorem rowed_below {B b : Nat} {A : Option Addr} {c kk : Nat} {V V' : World} (h : Rowed B A c kk V) (hb : Below b V V') (hB : V.heap.size ≤ b) : Rowed B A c kk V' := by
  obtain ⟨xs, ho⟩ := h
  exact ⟨xs, own_below ho hb hB⟩
theorem rowed_set {B : Nat} {A : Option Addr} {c kk : Nat} {V : World} (h : Rowed B A c kk V) {p : Addr} (hp : p.block < B) (v : Value) : Rowed B A c kk (V.setCell p v) := by
  obtain ⟨xs, ho⟩ := h
  exact ⟨xs, ownsRow_setCell_below ho hp v⟩
theorem rowed_lt {B : Nat} {A : Option Addr} {c kk : Nat} {V : World} (h : Rowed B A c kk V) (g off : Nat) (hA : A = some ⟨g, off, none⟩) : g < V.heap.size := by
  obtain ⟨xs, ho⟩ := h
  subst hA
  exact (ho.lt g rfl).2
theorem tail_some {g c k kk : Nat} (hk : k < kk) (hc : kk ≤ c) : tailA (some ⟨g, 0, none⟩) c k = some ⟨g, k, none⟩ := by
  unfold tailA
  rw [if_neg (by omega)]
  simp

set_option maxRecDepth 100000 in
set_option maxHeartbeats 2000000 in
theorem walk (w : World) (A : Option Addr) (c : Nat) (ms : List Int) (hr : Ns .i64 w w.heap.size A ms) (_hm : ∀ z ∈ ms, -9223372036854775808 ≤ z ∧ z ≤ 9223372036854775807) (hbig : ms.length * 8 ≤ 140737488351232) (_hlc : ms.length ≤ c) (part : Int) (_hp : -9223372036854775808 ≤ part ∧ part ≤ 9223372036854775807) (x : Int) (_hx : -9223372036854775808 ≤ x ∧ x ≤ 9223372036854775807) :
    Calls Try.prog 8 #[.slice A ms.length c, .int .i64 part, .int .i64 x] w fun e w' => e = .returned (.bool true) ∧ Below w.heap.size w w' := by
  obtain ⟨info, hi, hz, hsize, hby⟩ := info_parts info_int
  have HI := Lib.hid (And.intro hi (And.intro hz (And.intro hsize hby)))
  have hS : ∀ W, Below w.heap.size w W → Ns .i64 W W.heap.size A ms := fun W h => (hr.below h).more h.size
  have h1 := fun AX cX W (hx : Ns .i64 W W.heap.size AX ms) => list_any AX cX ms.length ms rfl part x W hx (by omega)
  have h2 := fun AX cX W (hx : Ns .i64 W W.heap.size AX ms) => rest_any AX cX ms.length ms rfl part x W hx (by omega)
  have h3 := fun W h => ref_list_any A c ms.length ms rfl part x W (hS W h) (by omega)
  have h4 := fun AX cX W (hx : Ns .i64 W W.heap.size AX ms) h => ints_any AX A cX c ms.length ms.length ms ms rfl rfl W hx (hS W h) (by omega) (by omega)
  rw [show decide (ms = ms) = true from decide_eq_true rfl] at h4
  obtain ⟨n, hn⟩ : ∃ n, ms.length = n := ⟨_, rfl⟩
  rw [hn] at h1 h2 h3 h4 hbig ⊢
  obtain ⟨L, hL⟩ : ∃ L, listF ms part x = L := ⟨_, rfl⟩
  obtain ⟨k, hk⟩ : ∃ k, L.length = k := ⟨_, rfl⟩
  obtain ⟨kk, hkk⟩ : ∃ kk, (ordL ms part).length = kk := ⟨_, rfl⟩
  have h5 := fun A A' c c' W h h' (hs : k ≤ 8) => ints_any A A' c c' k k L L hk hk W h h' (by omega) (by omega)
  rw [show decide (L = L) = true from decide_eq_true rfl] at h5
  have HL := Lib.hid (list_rowed hL hk hkk)
  have HR := Lib.hid (rest_rowed hL hk hkk)
  have HG := Lib.hid (list_got hL hk)
  have HN := Lib.hid hn
  have H1 := Lib.hid h1
  have H2 := Lib.hid h2
  have H3 := Lib.hid h3
  have H4 := Lib.hid h4
  have H5 := Lib.hid h5
  have HA := Lib.hid hr
  clear h1 h2 h3 h4 h5 hS hn hL hk hkk hr hi hz hsize hby
  go_enter Try.func8, Try.ntmps8
  go_wp2_with fail
  refine (awake_any w).mono ?_
  rintro e w0 ⟨rfl, hb0⟩
  have HA0 := Lib.hid (HA.out.below hb0)
  have s0 := hb0.size
  go_wp2_with (first
    | (at_builtin; refine wpList_append_ns _ rfl _ _ _ rfl w.heap.size 3 info (.int .i64 0) 8 Try.underlying22 HI.out.1 HI.out.2.1 HI.out.2.2.1 HI.out.2.2.2 rfl (.slice none 0 0) 0 [] rfl (World.ownsRow_nil _ _ _ _) .i64 w.heap.size A n c ms HN.out rfl HA0.out (by omega) (by omega) s0 ?_; intro v1 w1 o1 g1 _; obtain ⟨Ax, cx, rfl⟩ := own_form o1))
  have hb1 := hb0.grown g1 s0 (fun g hg => by cases hg)
  have nx1 : Ns .i64 w1 w1.heap.size Ax ms := by
    have h := o1
    rw [List.nil_append, Nat.zero_add] at h
    have e := HN.out
    subst e
    exact own_ns h
  have hcx := (own_len o1).2
  have NX := Lib.hid (And.intro nx1 hb1)
  clear o1 g1 HA0 s0 nx1 hb1 hb0
  go_wp2_with fail
  refine (H1.out Ax cx w1 NX.out.1).mono ?_
  rintro e w2 hl
  obtain ⟨A2, c2, cx2, rfl, hc2, hkk, hk8, r2, b2⟩ := HL.out _ _ _ hl
  have B2 := Lib.hid b2
  have R2 := Lib.hid r2
  clear hl r2 b2
  go_wp2_with fail
  refine (H2.out Ax cx w2 ((NX.out.1.below B2.out).more B2.out.size)).mono ?_
  rintro e w3 hl
  obtain ⟨A3, c3, cx3, rfl, hc3, r3, b3⟩ := HR.out _ _ _ hl
  have B3 := Lib.hid (B2.out.trans (b3.mono B2.out.size))
  have R3 := Lib.hid (And.intro (rowed_below R2.out b3 (Nat.le_refl _)) r3)
  have HLT := Lib.hid (rowed_lt R2.out)
  obtain ⟨A4, hA4⟩ : ∃ A4, tailA A3 c3 k = A4 := ⟨_, rfl⟩
  have HA4 := Lib.hid hA4
  rw [hA4]
  have HSZ : Hid (w1.heap.size ≤ w2.heap.size) := Lib.hid B2.out.size
  clear hl r3 b3 hA4
  go_wp2_with fail
  go_loopw [10] (fun q wr => ∃ i : Nat, i ≤ k ∧ q = .int .i64 i ∧ Hid (Rowed w1.heap.size A2 c2 kk wr ∧ Rowed w2.heap.size A3 c3 kk wr ∧ Below w1.heap.size w1 wr)) (fun q _ => k - (intOf q).toNat)
  case atStart => exact ⟨0, by omega, rfl, Lib.hid ⟨R3.out.1, R3.out.2, B3.out⟩⟩
  case round =>
    obtain ⟨i, hi1, rfl, hg⟩ := hrel
    by_cases hlt : i < k
    · obtain ⟨g, rfl, hg1, hg2, hkc, ⟨v0, hv0⟩, hf, hset⟩ := rowed_at hg.out.1 (show i < kk by omega)
      have HS := Lib.hid (And.intro (hset (-1)) (And.intro (rowed_set hg.out.2.1 (p := ⟨g, i, none⟩) (HLT.out g 0 rfl) (.int .i64 (-1))) (hg.out.2.2.setCell (p := ⟨g, i, none⟩) hg1 (.int .i64 (-1)))))
      have d1 : (i : Int) < (k : Int) := by omega
      clear hset hg
      go_wp2_with fail
      exact ⟨⟨i + 1, by omega, rfl, HS⟩, by simp only [intOf]; omega⟩
    · have d1 : ¬ (i : Int) < (k : Int) := by omega
      clear R3
      go_wp2_with fail
      go_loopw [11] (fun q V => ∃ i : Nat, i ≤ kk - k ∧ q = .int .i64 i ∧ Hid (Rowed w2.heap.size A3 c3 kk V ∧ Below w1.heap.size w1 V)) (fun q _ => kk - k - (intOf q).toNat)
      case atStart => exact ⟨0, by omega, rfl, Lib.hid ⟨hg.out.2.1, hg.out.2.2⟩⟩
      case round =>
        obtain ⟨j, hj1, rfl, hh⟩ := hrel
        by_cases hlt2 : j < kk - k
        · obtain ⟨g, rfl, hg1, hg2, hkc, ⟨v0, hv0⟩, hf, hset⟩ := rowed_at hh.out.1 (show k + j < kk by omega)
          have hA4 := HA4.out
          rw [tail_some (by omega) hkc] at hA4
          subst hA4
          have HS := Lib.hid (And.intro (hset (-2)) (hh.out.2.setCell (p := ⟨g, k + j, none⟩) (Nat.le_trans HSZ.out hg1) (.int .i64 (-2))))
          have d2 : (j : Int) < ((kk - k : Nat) : Int) := by omega
          clear hset hh HA4
          go_wp2_with fail
          exact ⟨⟨j + 1, by omega, rfl, HS⟩, by simp only [intOf]; omega⟩
        · have d2 : ¬ (j : Int) < ((kk - k : Nat) : Int) := by omega
          have BV := Lib.hid hh.out.2
          have NV := Lib.hid (And.intro ((NX.out.1.below BV.out).more BV.out.size) (NX.out.2.trans (BV.out.mono NX.out.2.size)))
          clear hh hg
          go_wp2_with fail
          refine (H4.out Ax cx _ NV.out.1 NV.out.2).mono ?_
          rintro e w5 ⟨rfl, b5⟩
          have N5 := Lib.hid (And.intro ((NV.out.1.below b5).more b5.size) (NV.out.2.trans (b5.mono NV.out.2.size)))
          clear b5
          go_wp2_with fail
          refine (H1.out Ax cx w5 N5.out.1).mono ?_
          rintro e w6 hl
          obtain ⟨A6, c6, rfl, hc6, _, o6, b6⟩ := HG.out _ _ _ hl
          have B6 := Lib.hid (N5.out.2.trans (b6.mono N5.out.2.size))
          clear b6 hl
          go_wp2_with fail
          refine (H3.out w6 B6.out).mono ?_
          rintro e w7 hl
          obtain ⟨A7, c7, rfl, hc7, _, o7, b7⟩ := HG.out _ _ _ hl
          have B7 := Lib.hid (B6.out.trans (b7.mono B6.out.size))
          have O7 := Lib.hid (And.intro ((o6.below b7).more b7.size) o7)
          clear b7 o6 o7 hl
          go_wp2_with fail
          refine (H5.out A6 A7 c6 c7 w7 O7.out.1 O7.out.2 (by omega)).mono ?_
          rintro e w8 ⟨rfl, b8⟩
          have B8 := Lib.hid (B7.out.trans (b8.mono B7.out.size))
          clear b8
          go_wp2_with fail
          go_ret
          exact ⟨rfl, B8.out⟩

-- ROW BEGIN
/-- What the walk gives, shut again. -/
theorem contract (H : Type) (enc : TypeId × Value → H) (W : World) (base : Nat) (args : Array Value) (ds gs : List (DataW H)) (before : List MemPlace)
    (hval : ∀ (j : Nat) t v, Try.f8.params[j]? = some t → args[j]? = some v → Value.okWide Try.prog W .any base t v)
    (hW : DataW.Whole enc Try.prog Try.f8.params.toList Rows.ringKeepsSpec.vars false W args.toList ds gs before)
    (hsz : (DataW.weightsEach Try.prog (Try.f8.params.toList ++ Rows.ringKeepsSpec.plain.varTypes Try.prog) (ds ++ gs)).all (· ≤ reachBytes) = true) :
    Calls Try.prog 8 args W fun e W' => ∃ v, e = .returned v ∧ Rows.ringKeepsSpec.post enc Try.prog Try.f8 false true false false W args v W' := by
  have hW' := hW
  obtain ⟨p, q, hA0, hV, hbef, _, _⟩ := hW
  have hA : DataW.TrodAll enc Try.prog W 0 (fun _ => true) true Try.f8.params.toList args.toList ds p := hA0
  have hA1 := hA
  rw [Try.params8] at hA hval hsz
  obtain ⟨v0, vs0, d0, ds0, p0, q0, hargs, rfl, rfl, h0, r0⟩ := trodAll_cons hA
  obtain ⟨v1, vs1, d1, ds1, p1, q1, rfl, rfl, rfl, h1, r1⟩ := trodAll_cons r0
  obtain ⟨v2, vs2, d2, ds2, p2, q2, rfl, rfl, rfl, h2, r2⟩ := trodAll_cons r1
  obtain ⟨rfl, rfl, rfl⟩ := trodAll_nil r2
  obtain rfl : args = #[v0, v1, v2] := by cases args; simp_all
  obtain ⟨rfl, rfl⟩ := trodVars_none hV
  clear hA hargs
  obtain ⟨A0, c0, a0, rfl, n0, w0, l0, _, o0⟩ := open_ns Try.underlying22 Try.underlying3 Facts.cells3 (hval 0 22 v0 rfl rfl) h0
  have b0 := reach_ns hsz (j := 0) rfl rfl Try.underlying22 Facts.bytes3 l0 o0
  obtain ⟨a1, rfl, rfl, _, w1⟩ := open_int Try.underlying3 (hval 1 3 v1 rfl rfl) h1
  obtain ⟨a2, rfl, rfl, _, w2⟩ := open_int Try.underlying3 (hval 2 3 v2 rfl rfl) h2
  refine (walk W A0 c0 a0 n0 (fun z hz => wf_int (w0 z hz)) (by omega) l0 a1 (wf_int w1) a2 (wf_int w2)).mono fun e W' ⟨he, hb⟩ => ?_
  subst he
  exact ⟨_, rfl, law_post Facts.laid (by rfl) Try.underlying4 (by rw [Try.params8]; decide +kernel) hW' hA1 rfl hbef rfl rfl rfl hb⟩

set_option maxRecDepth 100000 in
theorem lifted (os : Os) (started : os.Started) (H : Type) (enc : TypeId × Value → H) :
    ReturnsInHanded {} Try.checked os 8 .any (Rows.ringKeepsSpec.pre6 enc Try.prog Try.f8 Rows.ringKeepsRow.domain false) (Rows.ringKeepsSpec.post enc Try.prog Try.f8 false true false false) := by
  refine returnsInHanded_of_change_sized (C := Try.checked) Facts.own started (by kernel_rfl) Try.func8
    (ChangeSpec.witness6 (enc := enc) (C := Try.checked) false ⟨#[], #[.slice none 0 0, .int .i64 0, .int .i64 0], []⟩ 8 (by kernel_rfl) (by kernel_rfl) (by kernel_rfl) (by kernel_rfl)) ?_
  intro W base args ds gs before hval hW _ hsz _
  exact contract H enc W base args ds gs before hval hW hsz

theorem holds : Rows.RingKeepsSaid :=
  OpenClaim.holds_of_wide 8 Try.f8 rfl rfl rfl rfl rfl rfl rfl ⟨rfl, rfl, rfl, rfl, rfl⟩ rfl rfl rfl rfl rfl (by kernel_rfl) Try.func8 (by kernel_rfl)
    (of_decide_eq_true (by kernel_rfl)) (by unfold Func.isWrapper; first | (rw [if_pos (by decide +kernel)]; kernel_rfl) | (rw [if_neg (by decide +kernel)]; exact ⟨rfl, rfl⟩))
    (fun os started H enc _ => lifted os started H enc)
-- ROW END
end RingKeeps
end Go.Proofs.Ytfnjengcemokpaa
