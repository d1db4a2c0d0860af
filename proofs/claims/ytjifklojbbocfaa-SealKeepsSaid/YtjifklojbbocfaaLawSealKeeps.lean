/-
  SealKeeps (P13.4): what is handed in stays, and what is answered is new memory. For every input.
-/
import Derived.Test.YtjifklojbbocfaaSealAwake
import Derived.Test.YtjifklojbbocfaaSealArgs
import Derived.Test.YtjifklojbbocfaaSpanJoinRef
import Derived.Test.YtjifklojbbocfaaRow
namespace Go.Proofs.Ytjifklojbbocfaa
namespace SealKeeps
open Go.ChangeShapes Go.WideShapes Go.ChangeAt Go.RowKit Num Span Ring Seal Go.Proofs.Ytjifklojbbocfaa.Code
attribute [local go_sem ↓] Go.wp_at_zero Go.wp_at_succ

/-- n bytes in block g, that may be written. -/
def Wc (w : World) (g n : Nat) : Prop := ∀ j, j < n → (∃ z, w.cell? ⟨g, j, none⟩ = some (.int .u8 z)) ∧ w.frozen? ⟨g, j, none⟩ = false
theorem Wc.set {w : World} {g n : Nat} (h : Wc w g n) (i : Nat) (x : Int) : Wc (w.setCell ⟨g, i, none⟩ (.int .u8 x)) g n := fun j hj => by
  obtain ⟨⟨z, hz⟩, hf⟩ := h j hj
  refine ⟨?_, by rw [World.frozen?_setCell]; exact hf⟩
  by_cases hij : i = j
  · subst hij
    exact ⟨x, World.cell?_setCell_same w _ _ hz⟩
  · exact ⟨z, (World.cell?_setCell_other w _ _ _ (fun e => hij (by injection e))).trans hz⟩
theorem Wc.below {w w' : World} {g n : Nat} (h : Wc w g n) (hb : w'.heap[g]? = w.heap[g]?) : Wc w' g n := fun j hj => by
  obtain ⟨⟨z, hz⟩, hf⟩ := h j hj
  exact ⟨⟨z, (World.cell?_of_block (a := ⟨g, j, none⟩) hb).trans hz⟩, (World.frozen?_of_block (a := ⟨g, j, none⟩) hb).trans hf⟩
def rowOf (A : Option Addr) : Option Nat := A.map fun a => a.block

/-- A token, with its room. -/
theorem sout_parts {B : Nat} {r : List Int × Int} {w w' : World} {e : Ending} (h : SOut B r w e w') : ∃ A c, e = .returned (.tuple #[.slice A r.1.length c, .int .i64 r.2]) ∧ Ns .u8 w' w'.heap.size A r.1 ∧ r.1.length ≤ c ∧ Below B w w' ∧
    (0 < r.1.length → ∃ G, A = some ⟨G, 0, none⟩ ∧ Wc w' G r.1.length) ∧ ∀ g, rowOf A = some g → B ≤ g ∧ g < w'.heap.size := by
  obtain ⟨v, rfl, h | h, hb⟩ := h
  · obtain ⟨rfl, rfl⟩ := h
    exact ⟨none, 0, rfl, Ns.nil _, by simp, hb, fun h => absurd h (by simp), fun g h => by cases h⟩
  · obtain ⟨G, c, hv, hB, hG, hc, hm, h1, h2⟩ := h.2
    obtain ⟨A, c', hv', hN, hc'⟩ := h.2.ns
    rw [hv] at hv'
    injection hv' with e1 _ e3
    subst e1 e3
    subst hv
    exact ⟨_, _, rfl, hN, hc, hb, fun hp => ⟨G, rfl, fun j hj => ⟨⟨_, h1 j hj⟩, (h2 j (by omega)).2⟩⟩, fun g hg => by injection hg with hg; subst hg; exact ⟨hB, hG⟩⟩

theorem ns_other {w w' : World} {B : Nat} {A : Option Addr} {zs : List Int} {row : Option Nat} (h : Ns .u8 w B A zs) (hg : w.grownBy w' row) (hB : B ≤ w.heap.size) (hr : ∀ g, rowOf A = some g → some g ≠ row) : Ns .u8 w' B A zs :=
  Go.Proofs.Ytjifklojbbocfaa.Code.Ns.far h hg hB fun _ a ha => hr _ (by rw [ha]; rfl)

set_option maxRecDepth 100000 in
set_option maxHeartbeats 2000000 in
theorem walk (w : World) (s : ByteArray) (g : Int) (hg : -9223372036854775808 ≤ g ∧ g ≤ 9223372036854775807) (hs : s.size ≤ 140737488351232)
    (A : Option Addr) (c : Nat) (l : List Sp) (hr : Ss w w.heap.size A l) (hbig : l.length * 24 ≤ 140737488351232) (_hlc : l.length ≤ c) :
    Calls Try.prog 8 #[.agg #[.string s, .int .i64 g], .slice A l.length c] w fun e w' => e = .returned (.bool true) ∧ Below w.heap.size w w' := by
  obtain ⟨info, hi, hz, hsize, hby⟩ := info_span
  have HI := Lib.hid (And.intro hi (And.intro hz (And.intro hsize hby)))
  have h1 := fun A' c' m (hm : l.length = m) V (hV : Ss V V.heap.size A' l) => seal_any s hs g hg A' c' m l hm V hV (by omega)
  have h3 := fun m (hm : l.length = m) V (hV : Ss V V.heap.size A l) => ref_seal_any s hs g hg A c m l hm V hV (by omega)
  have hbt := seal_bytes s g l
  have hsl := seal_len s g l
  obtain ⟨⟨L, E⟩, hL⟩ : ∃ r, sealF s g l = r := ⟨_, rfl⟩
  rw [hL] at h1 h3 hbt hsl
  simp only at hbt hsl
  have h2 := fun A' c' n (hn : L.length = n) (hc' : n ≤ c') V (hV : Ns .u8 V V.heap.size A' L) => open_any s hs g A' c' n L hn V hV hbt hc' (by omega)
  have hxl := open_small (s := s) (g := g) hbt
  obtain ⟨⟨X, F⟩, hX⟩ : ∃ r, openF s g L = r := ⟨_, rfl⟩
  rw [hX] at h2 hxl
  simp only at hxl
  have h4 := fun A A' c c' m (hm : l.length = m) W h h' => Span.same_any A A' c c' m m l l hm hm W h h' (by omega) (by omega)
  rw [show decide (l = l) = true from decide_eq_true rfl] at h4
  have hcv : ∀ V Q A' c' n, L.length = n → Ns .u8 V Q A' L → (convert 25 9 (.slice A' n c')).run Try.prog V = .ok (.string (strOfNums L)) V := fun V Q A' c' n hn hV => by
    subst hn
    exact run_conv_ns (P := Try.prog) V 25 5 9 Try.underlying25 Try.underlying5 Try.underlying9 c' hV
  have hS : ∀ W, Below w.heap.size w W → Ss W W.heap.size A l := fun W h => (hr.below h).more h.size
  obtain ⟨m, hm⟩ : ∃ m, l.length = m := ⟨_, rfl⟩
  obtain ⟨n, hn⟩ : ∃ n, L.length = n := ⟨_, rfl⟩
  obtain ⟨p, hp⟩ : ∃ p, X.length = p := ⟨_, rfl⟩
  have h1 := fun A' c' => h1 A' c' m hm
  have h2 := fun A' c' => h2 A' c' n hn
  have h3 := h3 m hm
  have h4 := fun A A' c c' => h4 A A' c c' m hm
  rw [hm] at hbig ⊢
  rw [hn] at hsl
  rw [hp] at hxl
  obtain ⟨B, hB⟩ : ∃ B, w.heap.size = B := ⟨_, rfl⟩
  obtain ⟨W, hW⟩ : ∃ W, w.alloc (.cells #[.string s, .int .i64 g] 23) = W := ⟨_, rfl⟩
  have hb0 : Below w.heap.size w W := by rw [← hW]; exact (Below.refl _ w).alloc (Nat.le_refl _) _
  have q0 : W.cell? ⟨B, 0, none⟩ = some (.string s) := by rw [← hW, ← hB]; simp
  have q1 : W.cell? ⟨B, 1, none⟩ = some (.int .i64 g) := by rw [← hW, ← hB]; simp
  have hBW : B < W.heap.size := by rw [← hW, ← hB]; simp
  have hwW : w.heap.size ≤ W.heap.size := hb0.size
  have hq : ∀ V, Below W.heap.size W V → V.cell? ⟨B, 0, none⟩ = some (.string s) ∧ V.cell? ⟨B, 1, none⟩ = some (.int .i64 g) := fun V h =>
    ⟨(h.cell (p := ⟨B, 0, none⟩) hBW).trans q0, (h.cell (p := ⟨B, 1, none⟩) hBW).trans q1⟩
  have H0 := Lib.hid (And.intro hW (And.intro hb0 (And.intro hS (And.intro hm (And.intro hn (And.intro hp (And.intro hq hB)))))))
  have H1 := Lib.hid (And.intro h1 (And.intro h2 (And.intro h3 (And.intro h4 hcv))))
  have he : (E == E) = true := by simp
  clear h1 h2 h3 h4 hcv hS hb0 hW hL hX hr hm hn hp hbt hq q0 q1 hi hz hsize hby
  go_enter Try.func8, Try.ntmps8
  go_wp2_with fail
  rw [H0.out.1]
  refine (awake_any W).mono ?_
  rintro e w0 ⟨rfl, d0⟩
  have HA := Lib.hid (And.intro d0 (H0.out.2.2.1 w0 (H0.out.2.1.trans (d0.mono hwW))))
  have s0 := d0.size
  clear d0
  go_wp2_with (first
    | (at_builtin; refine wpList_append_ss _ rfl (.tmp 18) (.tmp 19) 24 rfl W.heap.size 45 info _ 24 Try.underlying24 HI.out.1 HI.out.2.1 HI.out.2.2.1 HI.out.2.2.2 rfl (.slice none 0 0) 0 [] rfl (World.ownsRow_nil _ _ _ _) w0.heap.size A m c l H0.out.2.2.2.1 rfl HA.out.2 (by omega) (by omega) s0 ?_; intro v1 w1 o1 g1 _; obtain ⟨Ax, cx, rfl⟩ := own_form o1; have d1 : Below W.heap.size W w1 := HA.out.1.grown g1 s0 (fun g hg => by cases hg); obtain ⟨r0, r1⟩ := H0.out.2.2.2.2.2.2.1 w1 d1)
    | fail)
  have s1 := d1.size
  have o1' : w1.ownsRow W.heap.size 45 3 (.slice Ax m cx) m (sps l) := by
    have h := o1
    rw [List.nil_append, Nat.zero_add] at h
    exact h
  have n1 : Ss w1 w1.heap.size Ax l := own_ss (n := m) (by rw [H0.out.2.2.2.1]; exact o1')
  have HB := Lib.hid (And.intro o1' (And.intro d1 n1))
  clear o1 o1' g1 d1 n1
  go_wp2_with fail
  refine (H1.out.1 Ax cx w1 HB.out.2.2).mono ?_
  intro e w2 hp
  obtain ⟨A2, c2, rfl, n2, hc2, d2, hw2, hl2⟩ := sout_parts hp
  rw [show (L, E).1 = L from rfl, H0.out.2.2.2.2.1] at hc2 hw2 ⊢
  have s2 := d2.size
  have e2 := HB.out.2.1.trans (d2.mono s1)
  obtain ⟨p0, p1⟩ := H0.out.2.2.2.2.2.2.1 w2 e2
  have HC := Lib.hid (And.intro (own_below HB.out.1 d2 (Nat.le_refl _)) (And.intro e2 (And.intro ((HB.out.2.2.below d2).more s2) (And.intro n2 (And.intro hw2 hl2)))))
  clear hp n2 d2 hw2 hl2 e2 r0 r1
  go_wp2_with fail
  refine (H1.out.1 Ax cx w2 HC.out.2.2.1).mono ?_
  intro e w3 hp
  obtain ⟨A3, c3, rfl, n3, hc3, d3, _, hl3⟩ := sout_parts hp
  rw [show (L, E).1 = L from rfl, H0.out.2.2.2.2.1] at hc3 ⊢
  have s3 := d3.size
  have e3 := HC.out.2.1.trans (d3.mono (by omega))
  obtain ⟨r0, r1⟩ := H0.out.2.2.2.2.2.2.1 w3 e3
  have hw3 : 0 < n → ∃ G, A2 = some ⟨G, 0, none⟩ ∧ Wc w3 G n := fun h0 => by
    obtain ⟨G, rfl, hG⟩ := HC.out.2.2.2.2.1 h0
    exact ⟨G, rfl, hG.below (d3.block G (HC.out.2.2.2.2.2 G rfl).2)⟩
  have HD := Lib.hid (And.intro (own_below HC.out.1 d3 (Nat.le_refl _)) (And.intro e3 (And.intro ((HC.out.2.2.2.1.below d3).more s3) (And.intro n3 (And.intro hw3 hl3)))))
  clear hp n3 d3 hw3 hl3 e3 p0 p1
  go_wp2_with fail
  refine (H1.out.2.1 A2 c2 hc2 w3 HD.out.2.2.1).mono ?_
  rintro e w4 ⟨A4, c4, rfl, o4, d4⟩
  rw [show (X, F).1 = X from rfl, H0.out.2.2.2.2.2.1]
  have s4 := d4.size
  have e4 := HD.out.2.1.trans (d4.mono (by omega))
  have hw4 : 0 < n → ∃ G, A2 = some ⟨G, 0, none⟩ ∧ Wc w4 G n := fun h0 => by
    obtain ⟨G, rfl, hG⟩ := HD.out.2.2.2.2.1 h0
    exact ⟨G, rfl, hG.below (d4.block G (by have := (HC.out.2.2.2.2.2 G rfl).2; omega))⟩
  have o4' : w4.ownsRow w3.heap.size 45 3 (.slice A4 p c4) p (sps X) := by
    have h := o4
    rw [show (X, F).1 = X from rfl, H0.out.2.2.2.2.2.1] at h
    exact h
  have HE := Lib.hid (And.intro (own_below HD.out.1 d4 (Nat.le_refl _)) (And.intro e4 (And.intro ((HD.out.2.2.2.1.below d4).more s4) (And.intro o4' hw4))))
  clear o4 o4' d4 hw4 e4 r0 r1
  go_wp2_with fail
  go_loopw [12] (fun q wr => ∃ i : Nat, i ≤ n ∧ q = .int .i64 i ∧ Hid (w4.grownBy wr (rowOf A2)) ∧ Hid (0 < n → ∃ G, A2 = some ⟨G, 0, none⟩ ∧ Wc wr G n)) (fun q _ => n - (intOf q).toNat)
  case atStart => exact ⟨0, by omega, rfl, World.grownBy.refl _ _, HE.out.2.2.2.2⟩
  case round =>
    obtain ⟨i, hi1, rfl, hgr, hwc⟩ := hrel
    by_cases hlt : i < n
    · obtain ⟨G, rfl, hG⟩ := hwc.out (by omega)
      obtain ⟨⟨z, hz⟩, hf⟩ := hG i hlt
      have HS := Lib.hid (fun x => And.intro (hG.set i x) (World.grownBy.trans hgr.out (grown_set wr G i (.int .u8 x))))
      clear hG hgr hwc
      go_wp2_with fail
      refine ⟨⟨i + 1, by omega, rfl, Lib.hid (HS.out _).2, Lib.hid fun _ => ⟨G, rfl, (HS.out _).1⟩⟩, by simp only [intOf]; omega⟩
    · have hin : n = i := by omega
      subst hin
      have g5 := hgr.out
      have hrow : ∀ g, rowOf A2 = some g → w1.heap.size ≤ g ∧ g < w2.heap.size := HC.out.2.2.2.2.2
      have s5 := g5.size
      have om5 := HE.out.1.kept g5 (by
        by_cases h0 : (Value.slice Ax m cx).ownBlock = none
        · exact .inl h0
        · right
          intro he
          obtain ⟨g, hg'⟩ := Option.ne_none_iff_exists'.1 h0
          have h5 := (HB.out.1.lt g hg').2
          have h6 := (hrow g (he ▸ hg')).1
          omega)
      have n5 := ns_other HE.out.2.2.1 g5 (Nat.le_refl _) (fun g hg hn => by
        have h5 := (HD.out.2.2.2.2.2 g hg).1
        have h6 := (hrow g hn.symm).2
        omega)
      have o5 := HE.out.2.2.2.1.kept g5 (by
        by_cases h0 : (Value.slice A4 p c4).ownBlock = none
        · exact .inl h0
        · right
          intro he
          obtain ⟨g, hg'⟩ := Option.ne_none_iff_exists'.1 h0
          have h5 := (HE.out.2.2.2.1.lt g hg').1
          have h6 := (hrow g (he ▸ hg')).2
          omega)
      have e5 := HE.out.2.1.grown g5 (by have := HE.out.2.1.size; omega) (fun g h => by have := (hrow g h).1; omega)
      have HF := Lib.hid (And.intro om5 (And.intro e5 (And.intro (n5.more s5) o5)))
      obtain ⟨w5, hw5⟩ : ∃ w5, wr = w5 := ⟨_, rfl⟩
      rw [hw5] at HF s5 ⊢
      clear g5 hgr hwc hrow om5 n5 o5 e5 hw5
      go_wp2_with fail
      go_loopw [13] (fun q wr => ∃ i : Nat, i ≤ p ∧ q = .int .i64 i ∧ Hid (w5.grownBy wr (Value.slice A4 p c4).ownBlock) ∧ Hid (∃ xs, wr.ownsRow w3.heap.size 45 3 (.slice A4 p c4) p xs)) (fun q _ => p - (intOf q).toNat)
      case atStart => exact ⟨0, by omega, rfl, World.grownBy.refl _ _, ⟨_, HF.out.2.2.2⟩⟩
      case round =>
        obtain ⟨i, hi2, rfl, hgr2, ho2⟩ := hrel
        by_cases hlt2 : i < p
        · obtain ⟨xs, ho⟩ := ho2.out
          obtain ⟨G, cap, hA4⟩ : ∃ G cap, A4 = some ⟨G, 0, none⟩ ∧ c4 = cap := by
            rcases ho.2 with ⟨_, h0⟩ | ⟨g, cap, cur, hv, _⟩
            · omega
            · injection hv with h1 _ h3
              exact ⟨g, cap, h1, h3⟩
          obtain ⟨rfl, rfl⟩ := hA4
          have hc := ho.cellAt (i * 3 + 2) (by omega)
          have hxs : i * 3 + 2 < xs.length := by rw [ho.1]; omega
          rw [List.getElem?_eq_getElem hxs] at hc
          obtain ⟨v0, hv0⟩ : ∃ v, xs[i * 3 + 2] = v := ⟨_, rfl⟩
          rw [hv0] at hc
          have hf := ho.frozenAt (i * 3 + 2)
          have hst := ho.stored (i * 3 + 2) (.int .i64 (-1))
          have HS := Lib.hid hst.1
          have HG := Lib.hid (World.grownBy.trans hgr2.out hst.2)
          clear hst ho hgr2 ho2
          go_wp2_with fail
          exact ⟨⟨i + 1, by omega, rfl, HG, Lib.hid ⟨_, HS.out⟩⟩, by simp only [intOf]; omega⟩
        · have g6 := hgr2.out
          have s6 := g6.size
          have hrow : ∀ g, (Value.slice A4 p c4).ownBlock = some g → w3.heap.size ≤ g := fun g hg => (HF.out.2.2.2.lt g hg).1
          have om6 := HF.out.1.kept g6 (by
            by_cases h0 : (Value.slice Ax m cx).ownBlock = none
            · exact .inl h0
            · right
              intro he
              obtain ⟨g, hg'⟩ := Option.ne_none_iff_exists'.1 h0
              have h5 := (HB.out.1.lt g hg').2
              have h6 := hrow g (he ▸ hg')
              omega)
          have n6 := ns_other HF.out.2.2.1 g6 (Nat.le_refl _) (fun g hg hn => by
            have h5 := (HD.out.2.2.2.2.2 g hg).2
            have h6 := hrow g hn.symm
            omega)
          have e6 := HF.out.2.1.grown g6 (by have := HF.out.2.1.size; omega) (fun g h => by have := hrow g h; omega)
          obtain ⟨r0, r1⟩ := H0.out.2.2.2.2.2.2.1 wr e6
          have b6 := H0.out.2.1.trans (e6.mono hwW)
          have HG := Lib.hid (And.intro (own_ss (n := m) (by rw [H0.out.2.2.2.1]; exact om6)) (And.intro (n6.more s6) b6))
          clear g6 hgr2 ho2 hrow om6 n6 e6 b6
          go_wp2_with fail
          refine (H1.out.2.2.1 wr (H0.out.2.2.1 wr HG.out.2.2)).mono ?_
          rintro e w7 ⟨A7, c7, rfl, n7, _, d7⟩
          rw [show (L, E).1 = L from rfl, H0.out.2.2.2.2.1]
          have b7 := HG.out.2.2.trans (d7.mono HG.out.2.2.size)
          have k1 := H1.out.2.2.2.2 w7 _ A3 c3 n H0.out.2.2.2.2.1 (HG.out.2.1.below d7)
          have k2 := H1.out.2.2.2.2 w7 _ A7 c7 n H0.out.2.2.2.2.1 n7
          have HH := Lib.hid (And.intro ((HG.out.1.below d7).more d7.size) b7)
          clear n7 d7 b7 r0 r1
          go_wp2_with fail
          refine (H1.out.2.2.2.1 Ax A cx c w7 HH.out.1 (H0.out.2.2.1 w7 HH.out.2)).mono ?_
          rintro e w8 ⟨rfl, d8⟩
          have HJ := Lib.hid (HH.out.2.trans (d8.mono HH.out.2.size))
          clear d8
          go_wp2_with fail
          go_ret
          exact ⟨by simp, HJ.out⟩
-- ROW BEGIN
/-- What the walk gives, shut again. -/
theorem contract (H : Type) (enc : TypeId × Value → H) (W : World) (base : Nat) (args : Array Value) (ds gs : List (DataW H)) (before : List MemPlace)
    (hval : ∀ (j : Nat) t v, Try.f8.params[j]? = some t → args[j]? = some v → Value.okWide Try.prog W .any base t v)
    (hW : DataW.Whole enc Try.prog Try.f8.params.toList Rows.sealKeepsSpec.vars false W args.toList ds gs before)
    (hsz : (DataW.weightsEach Try.prog (Try.f8.params.toList ++ Rows.sealKeepsSpec.plain.varTypes Try.prog) (ds ++ gs)).all (· ≤ reachBytes) = true) :
    Calls Try.prog 8 args W fun e W' => ∃ v, e = .returned v ∧ Rows.sealKeepsSpec.post enc Try.prog Try.f8 false true false false W args v W' := by
  have hW' := hW
  obtain ⟨p, q, hA0, hV, hbef, _, _⟩ := hW
  have hA : DataW.TrodAll enc Try.prog W 0 (fun _ => true) true Try.f8.params.toList args.toList ds p := hA0
  have hA1 := hA
  rw [Try.params8] at hA hval hsz
  obtain ⟨v0, vs0, d0, ds0, p0, q0, hargs, rfl, rfl, h0, r0⟩ := trodAll_cons hA
  obtain ⟨v1, vs1, d1, ds1, p1, q1, rfl, rfl, rfl, h1, r1⟩ := trodAll_cons r0
  obtain ⟨rfl, rfl, rfl⟩ := trodAll_nil r1
  obtain rfl : args = #[v0, v1] := by cases args; simp_all
  obtain ⟨rfl, rfl⟩ := trodVars_none hV
  clear hA hargs
  obtain ⟨a0, g0, rfl, w0, b0, u0⟩ := Seal.arg_key (hval 0 23 v0 rfl rfl) h0 (Wgt.wt_arg hsz (j := 0) rfl rfl)
  obtain ⟨A1, c1, a1, rfl, n1, l1, o1⟩ := Span.open_ss Try.underlying24 Try.underlying45 (by kernel_rfl) Span.cells_span Try.underlying3 Try.underlying2 Try.underlying2 (hval 1 24 v1 rfl rfl) h1
  have b1 := Span.reach_ss hsz (j := 1) rfl rfl Try.underlying24 Span.bytes_span l1 o1
  refine (walk W a0 g0 (wf_int w0) b0 A1 c1 a1 n1 (by omega) l1).mono fun e W' ⟨he, hb⟩ => ?_
  subst he
  exact ⟨_, rfl, law_post Facts.laid (by rfl) Try.underlying4 (by rw [Try.params8]; decide +kernel) hW' hA1 rfl hbef rfl rfl rfl hb⟩

set_option maxRecDepth 100000 in
theorem lifted (os : Os) (started : os.Started) (H : Type) (enc : TypeId × Value → H) :
    ReturnsInHanded {} Try.checked os 8 .any (Rows.sealKeepsSpec.pre6 enc Try.prog Try.f8 Rows.sealKeepsRow.domain false) (Rows.sealKeepsSpec.post enc Try.prog Try.f8 false true false false) := by
  refine returnsInHanded_of_change_sized (C := Try.checked) Facts.own started (by kernel_rfl) Try.func8
    (ChangeSpec.witness6 (enc := enc) (C := Try.checked) false ⟨#[], #[.agg #[.string ⟨#[]⟩, .int .i64 0], .slice none 0 0], []⟩ 8 (by kernel_rfl) (by kernel_rfl) (by kernel_rfl) (by kernel_rfl)) ?_
  intro W base args ds gs before hval hW _ hsz _
  exact contract H enc W base args ds gs before hval hW hsz

theorem holds : Rows.SealKeepsSaid :=
  OpenClaim.holds_of_wide 8 Try.f8 rfl rfl rfl rfl rfl rfl rfl ⟨rfl, rfl, rfl, rfl, rfl⟩ rfl rfl rfl rfl rfl (by kernel_rfl) Try.func8 (by kernel_rfl)
    (of_decide_eq_true (by kernel_rfl)) (by unfold Func.isWrapper; first | (rw [if_pos (by decide +kernel)]; kernel_rfl) | (rw [if_neg (by decide +kernel)]; exact ⟨rfl, rfl⟩))
    (fun os started H enc _ => lifted os started H enc)
-- ROW END
end SealKeeps
end Go.Proofs.Ytjifklojbbocfaa
