/-
  QuorumOrder (P16.4): in whatever order the answers come, the same comes of them. For every input whose bulk is at most 1048576.
-/
import Derived.Test.YtbhidndgnldheaaG16G
import Derived.Test.YtbhidndgnldheaaFrame
namespace Go.Proofs.Ytbhidndgnldheaa
namespace Facts
theorem cells3 : Try.prog.cellsOf 3 = 1 := by kernel_rfl
theorem bytes3 : Try.prog.bytesOf 3 = 8 := by kernel_rfl
end Facts
namespace QuorumOrder
open Go.ChangeShapes Go.WideShapes Go.ChangeAt Go.RowKit Quorum Ring Vers Span Blk
attribute [local go_sem ↓] Go.wp_at_zero Go.wp_at_succ
/-- Which nodes were met. -/
def SeenB (V : World) (b : Nat) (l : List Int) : Prop := b < V.heap.size ∧ ∀ q : Nat, q < 9 → V.cell? ⟨b, q, none⟩ = some (.bool (decide ((q : Int) ∈ l))) ∧ V.frozen? ⟨b, q, none⟩ = false
theorem seen_start (w : World) : SeenB (w.alloc (.cells #[.bool false, .bool false, .bool false, .bool false, .bool false, .bool false, .bool false, .bool false, .bool false] 60)) w.heap.size [] := by
  refine ⟨by simp, fun q hq => ?_⟩
  obtain rfl | rfl | rfl | rfl | rfl | rfl | rfl | rfl | rfl : q = 0 ∨ q = 1 ∨ q = 2 ∨ q = 3 ∨ q = 4 ∨ q = 5 ∨ q = 6 ∨ q = 7 ∨ q = 8 := by omega
  all_goals exact ⟨by simp, by simp⟩
theorem SeenB.set {V : World} {b : Nat} {l : List Int} (h : SeenB V b l) {z : Nat} (hz : z < 9) : SeenB (V.setCell ⟨b, z, none⟩ (.bool true)) b (l ++ [(z : Int)]) := by
  refine ⟨by simpa [World.setCell] using h.1, fun q hq => ⟨?_, ?_⟩⟩
  · by_cases e : q = z
    · subst e
      rw [World.cell?_setCell_same _ _ _ (h.2 q hq).1]
      simp
    · rw [World.cell?_setCell_other _ _ _ _ (by first | (simp; done) | simpa using e), (h.2 q hq).1]
      have : ¬ (q : Int) = (z : Int) := by omega
      simp [this]
  · rw [World.frozen?_setCell]
    exact (h.2 q hq).2
theorem SeenB.same {V V' : World} {b : Nat} {l : List Int} (h : SeenB V b l) (hs : V.heap.size ≤ V'.heap.size) (hk : V'.heap[b]? = V.heap[b]?) : SeenB V' b l := ⟨Nat.lt_of_lt_of_le h.1 hs, fun q hq => ⟨(World.cell?_of_block hk).trans (h.2 q hq).1, by have := (h.2 q hq).2; unfold World.frozen? at *; rw [hk]; exact this⟩⟩
def Sel (reps rs : List Rp) : Prop := (∀ r ∈ rs, r ∈ reps ∧ 1 ≤ r.1.1 ∧ r.1.1 ≤ 8) ∧ (rs.map fun r => r.1.1).Nodup
theorem sel_snoc {reps rs : List Rp} {r : Rp} (h : Sel reps rs) (hr : r ∈ reps) (h1 : 1 ≤ r.1.1) (h8 : r.1.1 ≤ 8) (hn : r.1.1 ∉ rs.map fun r => r.1.1) : Sel reps (rs ++ [r]) := by
  refine ⟨fun x hx => ?_, ?_⟩
  · rcases List.mem_append.1 hx with hx | hx
    · exact h.1 x hx
    · rw [List.mem_singleton.1 hx]
      exact ⟨hr, h1, h8⟩
  · rw [List.map_append, List.map_cons, List.map_nil]
    exact nodup_snoc.2 ⟨h.2, hn⟩
set_option maxRecDepth 100000 in
set_option maxHeartbeats 4000000 in
theorem walk (w : World) (A : Option Addr) (c : Nat) (ls : List Int) (hr : Ns .i64 w w.heap.size A ls) (_hm : ∀ z ∈ ls, -9223372036854775808 ≤ z ∧ z ≤ 9223372036854775807) (hbig : ls.length * 8 ≤ 140737488351232) (hlc : ls.length ≤ c)
    (A' : Option Addr) (c' : Nat) (reps : List Rp) (hr' : Rs w A' reps) (hbig' : reps.length * 56 ≤ 140737488351232) (_hlc' : reps.length ≤ c')
    (turn : Int) (_hturn : -9223372036854775808 ≤ turn ∧ turn ≤ 9223372036854775807) (hbulk : ls.length + (allV reps).length ≤ 1048576) :
    Calls Try.prog 5 #[.slice A ls.length c, .slice A' reps.length c', .int .i64 turn] w fun e w' => e = .returned (.bool true) ∧ Below w.heap.size w w' := by
  obtain ⟨n, hn⟩ : ∃ n, ls.length = n := ⟨_, rfl⟩
  obtain ⟨m, hm⟩ : ∃ m, reps.length = m := ⟨_, rfl⟩
  rw [hn, hm]
  rw [hm] at hbig'
  obtain ⟨i0, hi0, hz0, hz1, hz2⟩ := info_parts info_rep
  have HI := Lib.hid (And.intro hi0 (And.intro hz0 (And.intro hz1 hz2)))
  have H0 : Hid (∀ V, Below w.heap.size w V → Calls Try.prog 18 #[.slice A n c, .int .i64 n] V (NewedR ls n n V)) := Lib.hid fun V hV => newR_any A c n ls hn n V ((hr.below hV).more hV.size) (by omega) (by omega)
  have HR : Hid (∀ V, Below w.heap.size w V → Calls Try.prog 9 #[.slice A n c, .int .i64 n] V (fun e w' => e = .returned (.bool (decide (okL ls n))) ∧ Below V.heap.size V w')) := Lib.hid fun V hV => rightA_any A c n ls hn n V ((hr.below hV).more hV.size) (by omega) (by omega)
  have HRs : Hid (∀ V, Below w.heap.size w V → Rs V A' reps) := Lib.hid fun V hV => ⟨fun h0 => by
    obtain ⟨b, off, e, hb, hat⟩ := hr'.1 h0
    exact ⟨b, off, e, Nat.lt_of_lt_of_le hb hV.size, fun j x hx r u hu => (hV.cell (p := ⟨b, _, none⟩) hb).trans (hat j x hx r u hu)⟩, fun x hx => ⟨((hr'.2 x hx).1.below hV).more hV.size, (hr'.2 x hx).2⟩⟩
  obtain ⟨q0, hq0⟩ : ∃ q, wrF (allV reps) = q := ⟨_, rfl⟩
  have HW : Hid (∀ V, Below w.heap.size w V → Calls Try.prog 28 #[.slice A' m c'] V (fun e w' => e = .returned (.bool q0) ∧ Below V.heap.size V w')) := Lib.hid fun V hV => by
    have h := written_any A' c' m reps hm V (HRs.out V hV) (by omega) (by omega)
    rwa [hq0] at h
  have HV := Lib.hid (And.intro hr' (And.intro hn hm))
  clear hr hr' hn hm hlc _hm _hturn _hlc' hbulk hq0 hbig hi0 hz0 hz1 hz2
  go_enter Try.func5, Try.ntmps5
  go_wp2_with fail
  refine (awake_any w).mono ?_
  rintro e w1 ⟨rfl, b1⟩
  have H1 := HR.out w1 b1
  by_cases ok : okL ls n
  · rw [decide_eq_true ok] at H1
    have HO := Lib.hid ok
    clear ok
    go_wp2_with fail
    refine H1.mono ?_
    rintro e w2 ⟨rfl, b2⟩
    have o2 := b1.trans (b2.mono b1.size)
    have H2 := HW.out w2 o2
    clear H1 b1 b2
    cases q0
    · go_wp2_with fail
      refine H2.mono ?_
      rintro e w3 ⟨rfl, b3⟩
      have o3 := o2.trans (b3.mono o2.size)
      clear H2 b3 o2
      go_wp2_with fail
      refine (awake_any w3).mono ?_
      rintro e w4 ⟨rfl, b4⟩
      have o4 := o3.trans (b4.mono o3.size)
      go_wp2_with fail
      go_ret
      exact ⟨rfl, o4⟩
    · go_wp2_with fail
      refine H2.mono ?_
      rintro e w3 ⟨rfl, b3⟩
      have o3 := o2.trans (b3.mono o2.size)
      have H3 := H0.out w3 o3
      clear H2 b3 o2
      go_wp2_with fail
      refine H3.mono ?_
      rintro e w4 (⟨no, _⟩ | ⟨_, r1, lb, cl, cb, ab, rfl, h4⟩)
      · exact absurd HO.out no
      have S4 := new_sideR HO.out h4.out.1 h4.out.2.1
      have o4 := o3.trans (h4.out.2.2.mono o3.size)
      have H4 := H0.out w4 o4
      clear H3
      go_wp2_with fail
      refine H4.mono ?_
      rintro e w5 (⟨no, _⟩ | ⟨_, r2, lb', cl', cb', ab', rfl, h5⟩)
      · exact absurd HO.out no
      have HP : Hid (Pr (fun k => k < w.heap.size) w n True 55 r1 n (startF ls) True 55 r2 n (startF ls) w5) := Lib.hid (Pr.new S4 (fun k hk => Nat.le_trans o3.size hk.1) o4 (new_sideR HO.out h5.out.1 h5.out.2.1) (fun k hk => hk.1) h5.out.2.2)
      obtain ⟨mb, hmb⟩ : ∃ mb, w5.heap.size = mb := ⟨_, rfl⟩
      obtain ⟨W, hW⟩ : ∃ W, w5.alloc (.cells #[.bool false, .bool false, .bool false, .bool false, .bool false, .bool false, .bool false, .bool false, .bool false] 60) = W := ⟨_, rfl⟩
      have hSB : SeenB W mb [] := by rw [← hW, ← hmb]; exact seen_start w5
      have bW : Below mb w5 W := by rw [← hW, ← hmb]; exact (Below.refl _ w5).alloc (Nat.le_refl _) _
      have sW : mb < W.heap.size := hSB.1
      have hwm : w.heap.size ≤ mb := by have := HP.out.old.size; omega
      have oW : Below w.heap.size w W := HP.out.old.trans (bW.mono hwm)
      have HK := Lib.hid (And.intro hSB (And.intro bW (And.intro oW hmb)))
      clear H0 H4 h4 h5 S4 o3 o4 HW HR hSB bW oW
      go_wp2_with fail
      clear hW hmb
      go_loopw [14, 15] (fun sv iv V => ∃ (i ns cs : Nat) (As : Option Addr) (rs : List Rp), iv = .int .i64 i ∧ i ≤ m ∧ sv = .slice As ns cs ∧ ns ≤ i ∧ Hid (SeenB V mb (rs.map fun r => r.1.1) ∧ V.ownsRow (mb + 1) 50 3 (.slice As ns cs) ns (rpcs rs) ∧ rs.length = ns ∧ Below mb W V ∧ Sel reps rs)) (fun _ iv _ => m - (intOf iv).toNat)
      case atStart => exact ⟨0, 0, 0, none, [], rfl, by omega, rfl, by omega, Lib.hid ⟨HK.out.1, World.ownsRow_nil _ _ _ _, rfl, Below.refl _ _, by simp, by simp⟩⟩
      case round =>
        obtain ⟨i, ns, cs, As, rs, rfl, hi, rfl, hns, hJ⟩ := hrel
        by_cases hlt : i < m
        · obtain ⟨pb, off, rfl, hpb, hat⟩ := HV.out.1.1 (by have := HV.out.2.2; omega)
          obtain ⟨⟨⟨node, an⟩, ⟨Av, cv⟩, ⟨Ar, kr, cr⟩⟩, hx⟩ : ∃ x, reps[i]? = some x := ⟨reps[i]'(by have := HV.out.2.2; omega), by simp⟩
          obtain ⟨hv, hvc, hvb⟩ := HV.out.1.2 _ (List.mem_of_getElem? hx)
          have hmem := List.mem_of_getElem? hx
          simp only at hv hvc hvb
          have HS : Hid (∀ V, Below w.heap.size w V → V.cell? ⟨pb, off + i * 3, none⟩ = some (.int .i64 node) ∧ V.cell? ⟨pb, off + i * 3 + 1, none⟩ = some (.slice Av an.length cv) ∧ V.cell? ⟨pb, off + i * 3 + 2, none⟩ = some (.slice Ar kr cr)) := Lib.hid fun V hV => ⟨(hV.cell (p := ⟨pb, off + i * 3, none⟩) hpb).trans (hat i _ hx 0 _ rfl), (hV.cell (p := ⟨pb, off + i * 3 + 1, none⟩) hpb).trans (hat i _ hx 1 _ rfl), (hV.cell (p := ⟨pb, off + i * 3 + 2, none⟩) hpb).trans (hat i _ hx 2 _ rfl)⟩
          have oV : Below w.heap.size w wr := HK.out.2.2.1.trans (hJ.out.2.2.2.1.mono hwm)
          have sV := hJ.out.2.2.2.1.size
          have HRT := Lib.hid (ref_rightV_any Av cv an.length an rfl wr ((hv.below oV).more oV.size) (by omega))
          have HM := Lib.hid (And.intro hmem (And.intro hv oV))
          obtain ⟨x0, x1, x2⟩ := HS.out wr oV
          have d1 : (0 : Int) ≤ (i : Int) := by omega
          have d2 : (i : Int) < (m : Int) := by omega
          have e1 : IntKind.i64.wrap ((i : Int) + 1) = (i : Int) + 1 := Go.IntWalk.i64_in _ (by omega)
          clear hat hx hmem hv hvc oV hpb
          by_cases h1 : 1 ≤ node
          · by_cases h8 : node ≤ 8
            · obtain ⟨z, rfl⟩ := Int.eq_ofNat_of_zero_le (show 0 ≤ node by omega)
              have hz9 : z < 9 := by omega
              have d4 : (z : Int) < 9 := by omega
              have d5 : (0 : Int) ≤ (z : Int) := by omega
              obtain ⟨s0, s1⟩ := hJ.out.1.2 z hz9
              by_cases hin : (z : Int) ∈ rs.map fun r => r.1.1
              · rw [decide_eq_true hin] at s0
                clear HRT HM HS
                go_wp2_with fail
                exact ⟨⟨i + 1, ns, cs, As, rs, rfl, by omega, rfl, by omega, hJ⟩, by simp only [intOf]; omega⟩
              · rw [decide_eq_false hin] at s0
                have HNI := Lib.hid hin
                clear hin
                go_wp2_with fail
                refine HRT.out.mono ?_
                rintro e w6 ⟨he6, b6⟩
                have J6 : Hid (SeenB w6 mb (rs.map fun r => r.1.1) ∧ w6.ownsRow (mb + 1) 50 3 (.slice As ns cs) ns (rpcs rs) ∧ rs.length = ns ∧ Below mb W w6 ∧ Sel reps rs) := Lib.hid ⟨hJ.out.1.same b6.size (b6.block _ hJ.out.1.1), own_below hJ.out.2.1 b6 (Nat.le_refl _), hJ.out.2.2.1, hJ.out.2.2.2.1.trans (b6.mono (by omega)), hJ.out.2.2.2.2⟩
                have o6 := HM.out.2.2.trans (b6.mono HM.out.2.2.size)
                have s6 := b6.size
                by_cases hright : RightV an
                · rw [decide_eq_true hright] at he6
                  subst he6
                  obtain ⟨X3, hX3⟩ : ∃ X, w6.setCell ⟨mb, z, none⟩ (.bool true) = X := ⟨_, rfl⟩
                  have g3 : w6.grownBy X3 (some mb) := by rw [← hX3]; exact gset w6 mb z (.bool true)
                  have hB3 : SeenB X3 mb ((rs.map fun r => r.1.1) ++ [(z : Int)]) := by rw [← hX3]; exact J6.out.1.set hz9
                  have o3 : Below w.heap.size w X3 := o6.grown g3 o6.size (fun g hg => by injection hg with hg; omega)
                  have hrow3 : X3.ownsRow (mb + 1) 50 3 (.slice As ns cs) ns (rpcs rs) := Blk.own_keep J6.out.2.1 fun g hg => g3.block g (J6.out.2.1.lt g hg).2 (fun q => by injection q with q; have := (J6.out.2.1.lt g hg).1; omega)
                  have bm3 : Below mb W X3 := J6.out.2.2.2.1.grown g3 (by omega) (fun g hg => by injection hg with hg; omega)
                  have s3 := g3.size
                  obtain ⟨f0, f1, f2⟩ := HS.out X3 o3
                  obtain ⟨p0, p1⟩ := J6.out.1.2 z hz9
                  have HQ := Lib.hid (And.intro hB3 (And.intro hrow3 bm3))
                  clear g3 hB3 o3 hrow3 bm3 b6 x0 x1 x2 s0 s1
                  go_wp2_with (at_builtin; refine wpList_append_rp rfl _ _ 42 rfl (mb + 1) 50 i0 _ 56 Try.underlying42 HI.out.1 HI.out.2.1 HI.out.2.2.1 HI.out.2.2.2 rfl _ ns rs rfl HQ.out.2.1 (((z : Int), an), (Av, cv), (Ar, kr, cr)) 1 rfl (by omega) (by omega) (by omega) ?_; intro v7 w7 o7 g7 at7; obtain ⟨A7, c7, rfl⟩ := own_form o7)
                  have J7 : Hid (SeenB w7 mb ((rs ++ [(((z : Int), an), (Av, cv), (Ar, kr, cr))]).map fun r : Rp => r.1.1) ∧ w7.ownsRow (mb + 1) 50 3 (.slice A7 (ns + 1) c7) (ns + 1) (rpcs (rs ++ [(((z : Int), an), (Av, cv), (Ar, kr, cr))])) ∧ (rs ++ [(((z : Int), an), (Av, cv), (Ar, kr, cr))]).length = ns + 1 ∧ Below mb W w7 ∧ Sel reps (rs ++ [(((z : Int), an), (Av, cv), (Ar, kr, cr))])) := Lib.hid (by
                    refine ⟨?_, o7, by rw [List.length_append, J6.out.2.2.1]; rfl, HQ.out.2.2.grown g7 (by omega) fun g hg => by have := (HQ.out.2.1.lt g hg).1; omega, sel_snoc J6.out.2.2.2.2 HM.out.1 h1 h8 HNI.out⟩
                    rw [List.map_append, List.map_cons, List.map_nil]
                    exact HQ.out.1.same g7.size (g7.block mb HQ.out.1.1 fun q => by have := (HQ.out.2.1.lt mb q.symm).1; omega))
                  clear o7 g7 at7 HQ f0 f1 f2 p0 p1 HM HS J6
                  exact ⟨⟨i + 1, ns + 1, c7, A7, rs ++ [(((z : Int), an), (Av, cv), (Ar, kr, cr))], rfl, by omega, rfl, by omega, J7⟩, by simp only [intOf]; omega⟩
                · rw [decide_eq_false hright] at he6
                  subst he6
                  clear HM HS b6 hright
                  go_wp2_with fail
                  exact ⟨⟨i + 1, ns, cs, As, rs, rfl, by omega, rfl, by omega, J6⟩, by simp only [intOf]; omega⟩
            · clear HRT HM HS
              have g8 : decide (node ≤ 8) = false := decide_eq_false h8
              go_wp2_with fail
              exact ⟨⟨i + 1, ns, cs, As, rs, rfl, by omega, rfl, by omega, hJ⟩, by simp only [intOf]; omega⟩
          · clear HRT HM HS
            have g1 : decide (1 ≤ node) = false := decide_eq_false h1
            go_wp2_with fail
            exact ⟨⟨i + 1, ns, cs, As, rs, rfl, by omega, rfl, by omega, hJ⟩, by simp only [intOf]; omega⟩
        · have him : m = i := by omega
          subst him
          obtain ⟨V1, hV1⟩ : ∃ V, V = wr := ⟨_, rfl⟩
          subst hV1
          have bV : Below mb w5 V1 := HK.out.2.1.trans (hJ.out.2.2.2.1.mono (Nat.le_refl _))
          have HP1 : Hid (Pr (fun k => k < w.heap.size ∨ (w5.heap.size ≤ k ∧ k < V1.heap.size) ∨ k < w.heap.size) w n True 55 r1 n (startF ls) True 55 r2 n (startF ls) V1) := Lib.hid (HP.out.hold (by rw [HK.out.2.2.2]; exact bV))
          obtain ⟨X, hX⟩ : ∃ X : Nat → Prop, (fun k => k < w.heap.size ∨ (w5.heap.size ≤ k ∧ k < V1.heap.size) ∨ k < w.heap.size) = X := ⟨_, rfl⟩
          rw [hX] at HP1
          have hXr : ∀ k, mb ≤ k → k < V1.heap.size → X k := fun k h1 h2 => by rw [← hX]; exact .inr (.inl ⟨by rw [HK.out.2.2.2]; exact h1, h2⟩)
          have hns2 : ns ≤ m := hns
          have HRow : Hid (∀ j, j < ns → ∃ (g : Nat) (x : Rp), As = some ⟨g, 0, none⟩ ∧ rs[j]? = some x ∧ x.1.2.length ≤ 140737488351328 ∧ ∀ V, Kept X V1 V → Below w.heap.size w V → V.cell? ⟨g, j * 3, none⟩ = some (.int .i64 x.1.1) ∧ V.cell? ⟨g, j * 3 + 1, none⟩ = some (.slice x.2.1.1 x.1.2.length x.2.1.2) ∧ Vs V 0 V.heap.size x.2.1.1 x.1.2) := Lib.hid fun j hj => by
            obtain ⟨g, hA, hg1, hg2, hat⟩ := own_rs hJ.out.2.1 hJ.out.2.2.1 (by omega)
            obtain ⟨x, hx⟩ : ∃ x, rs[j]? = some x := ⟨rs[j]'(by have := hJ.out.2.2.1; omega), by simp⟩
            have hin := (hJ.out.2.2.2.2.1 x (List.mem_of_getElem? hx)).1
            obtain ⟨hv, _, hvb⟩ := HV.out.1.2 x hin
            refine ⟨g, x, hA, hx, by omega, fun V hV hw => ?_⟩
            have hk := hV.2 g (hXr g (by omega) hg2)
            exact ⟨(World.cell?_of_block (a := ⟨g, _, none⟩) hk).trans (hat j x hx 0 _ rfl), (World.cell?_of_block (a := ⟨g, _, none⟩) hk).trans (hat j x hx 1 _ rfl), (hv.below hw).more hw.size⟩
          have HSel := Lib.hid (And.intro hJ.out.2.2.2.2.2 hJ.out.2.2.1)
          clear hX hXr hJ bV HP HK
          go_wp2_with fail
          obtain ⟨odd, hodd⟩ : ∃ b : Bool, (turn.tmod 2 != 0) = b := ⟨_, rfl⟩
          go_loopw [17] (fun iv V => ∃ (i : Nat) (la lb : List En), iv = .int .i64 i ∧ i ≤ ns ∧ Hid (Pr X w n True 55 r1 n la True 55 r2 n lb V ∧ Kept X V1 V ∧ la = foldG (startF ls) (rs.take i) ∧ lb = foldG (startF ls) (pickL rs odd i))) (fun iv _ => ns - (intOf iv).toNat)
          case atStart => exact ⟨0, _, _, rfl, by omega, Lib.hid ⟨HP1.out, Kept.refl _, rfl, rfl⟩⟩
          case round =>
            obtain ⟨i, la, lb, rfl, hi, hJ⟩ := hrel
            by_cases hlt : i < ns
            · obtain ⟨g, ⟨⟨node, an⟩, ⟨Av, cv⟩, ⟨Ar, kr, cr⟩⟩, hA, hx, hvb, hat⟩ := HRow.out i hlt
              subst hA
              simp only at hvb hat
              obtain ⟨x0, x1, hv⟩ := hat wr hJ.out.2.1 hJ.out.1.old
              obtain ⟨⟨ba, la'⟩, hca⟩ : ∃ y, gotF la node an = y := ⟨_, rfl⟩
              have K0 := Lib.hid ((hJ.out.1.below (Below.refl _ wr).drew).got node Av cv an.length an rfl hvb (hv.below (Below.refl _ wr).drew) hca)
              have hst : wr.drew.cell? ⟨g, i * 3, none⟩ = some (.int .i64 node) ∧ wr.drew.cell? ⟨g, i * 3 + 1, none⟩ = some (.slice Av an.length cv) := ⟨x0, x1⟩
              have d1 : (0 : Int) ≤ (i : Int) := by omega
              have d2 : (i : Int) < (ns : Int) := by omega
              have HK0 : Hid (Kept X V1 wr.drew) := Lib.hid (hJ.out.2.1.trans (Kept.of_below (Below.refl _ wr).drew hJ.out.1.xlt))
              have HF : Hid (la' = foldG (startF ls) (rs.take (i + 1)) ∧ lb = foldG (startF ls) (pickL rs odd i)) := Lib.hid ⟨by
                rw [take_one hx, fold_snoc, ← hJ.out.2.2.1, hca], hJ.out.2.2.2⟩
              have HAt := Lib.hid hat
              clear hca hx x0 x1 hv hvb hat hJ
              go_wp2_with fail
              go_region_held3 (fun V => V.cell? ⟨g, i * 3, none⟩ = some (.int .i64 node) ∧ V.cell? ⟨g, i * 3 + 1, none⟩ = some (.slice Av an.length cv))
                (first | exact hst | exact HC7.out)
                (first | (go_at_call 19; refine K0.out.mono ?_; rintro e7 w7 ⟨rfl, h7⟩; have HC7 : Hid (w7.cell? ⟨g, i * 3, none⟩ = some (.int .i64 node) ∧ w7.cell? ⟨g, i * 3 + 1, none⟩ = some (.slice Av an.length cv)) := Lib.hid (by obtain ⟨z0, z1, _⟩ := HAt.out w7 (HK0.out.trans h7.out.2) h7.out.1.old; exact ⟨z0, z1⟩)))
              have HP7 := Lib.hid (And.intro h7.out.1 (HK0.out.trans h7.out.2))
              clear h7 HC7 HK0 K0 HAt hst
              obtain ⟨j, hj⟩ : ∃ j, kF odd ns i = j := ⟨_, rfl⟩
              have hjn : j < ns := by rw [← hj]; exact k_lt odd hlt
              obtain ⟨g', ⟨⟨node', an'⟩, ⟨Av', cv'⟩, ⟨Ar', kr', cr'⟩⟩, hA', hx', hvb', hat'⟩ := HRow.out j hjn
              injection hA' with hA'
              injection hA' with hA'
              subst hA'
              simp only at hvb' hat'
              obtain ⟨x0', x1', hv'⟩ := hat' w7 HP7.out.2 HP7.out.1.old
              obtain ⟨⟨bb, lb'⟩, hcb⟩ : ∃ y, gotF lb node' an' = y := ⟨_, rfl⟩
              have K1 := Lib.hid ((HP7.out.1.swap.below (Below.refl _ w7).drew).got node' Av' cv' an'.length an' rfl hvb' (hv'.below (Below.refl _ w7).drew) hcb)
              have hst' : w7.drew.cell? ⟨g, j * 3, none⟩ = some (.int .i64 node') ∧ w7.drew.cell? ⟨g, j * 3 + 1, none⟩ = some (.slice Av' an'.length cv') := ⟨x0', x1'⟩
              have HK1 : Hid (Kept X V1 w7.drew) := Lib.hid (HP7.out.2.trans (Kept.of_below (Below.refl _ w7).drew HP7.out.1.xlt))
              have HF1 : Hid (la' = foldG (startF ls) (rs.take (i + 1)) ∧ lb' = foldG (startF ls) (pickL rs odd (i + 1))) := Lib.hid ⟨HF.out.1, by
                rw [pick_snoc, fold_snoc, ← HF.out.2, HSel.out.2, hj, List.getD_eq_getElem?_getD, hx']
                simp only [Option.getD_some]
                rw [hcb]⟩
              have HAt' := Lib.hid hat'
              have e1 : IntKind.i64.wrap ((ns : Int) - 1) = (ns : Int) - 1 := Go.IntWalk.i64_in _ (by omega)
              have e2 : IntKind.i64.wrap ((ns : Int) - 1 - (i : Int)) = (ns : Int) - 1 - (i : Int) := Go.IntWalk.i64_in _ (by omega)
              have e9 : IntKind.i64.wrap ((i : Int) + 1) = (i : Int) + 1 := Go.IntWalk.i64_in _ (by omega)
              have HJ := Lib.hid hj
              clear hcb hx' hv' hvb' hat' HF hj x0' x1'
              cases odd
              · have hjj : (ns : Int) - 1 - (i : Int) = (j : Int) := by have := HJ.out; unfold kF at this; simp only [Bool.false_eq_true, if_false] at this; omega
                go_wp2_with fail
                go_region_held3 (fun V => V.cell? ⟨g, j * 3, none⟩ = some (.int .i64 node') ∧ V.cell? ⟨g, j * 3 + 1, none⟩ = some (.slice Av' an'.length cv'))
                  (first | exact hst' | exact HC8.out)
                  (first | (go_at_call 19; refine K1.out.mono ?_; rintro e8 w8 ⟨rfl, h8⟩; have HC8 : Hid (w8.cell? ⟨g, j * 3, none⟩ = some (.int .i64 node') ∧ w8.cell? ⟨g, j * 3 + 1, none⟩ = some (.slice Av' an'.length cv')) := Lib.hid (by obtain ⟨z0, z1, _⟩ := HAt'.out w8 (HK1.out.trans h8.out.2) h8.out.1.old; exact ⟨z0, z1⟩)))
                have HE : Hid (Pr X w n True 55 r1 n la' True 55 r2 n lb' w8 ∧ Kept X V1 w8) := Lib.hid ⟨h8.out.1.swap, HK1.out.trans h8.out.2⟩
                clear h8 HC8 HK1 K1 HAt' hst'
                go_wp2_with fail
                exact ⟨⟨i + 1, la', lb', rfl, by omega, Lib.hid ⟨HE.out.1, HE.out.2, HF1.out.1, HF1.out.2⟩⟩, by simp only [intOf]; omega⟩
              · obtain ⟨h, hh⟩ : ∃ h, ns / 2 = h := ⟨_, rfl⟩
                have f3 : (ns : Int).tdiv 2 = (h : Int) := by rw [← hh]; exact Int.ofNat_tdiv ns 2 |>.symm
                have f4 : IntKind.i64.wrap (h : Int) = (h : Int) := Go.IntWalk.i64_in _ (by omega)
                have f5 : IntKind.i64.wrap ((i : Int) + (h : Int)) = (i : Int) + (h : Int) := Go.IntWalk.i64_in _ (by omega)
                have f6 : ((i : Int) + (h : Int)).tmod (ns : Int) = (j : Int) := by
                  have := HJ.out
                  unfold kF at this
                  rw [if_pos rfl, hh] at this
                  rw [← this, ← Int.natCast_add]
                  exact (Int.ofNat_tmod (i + h) ns).symm
                have f7 : IntKind.i64.wrap (j : Int) = (j : Int) := Go.IntWalk.i64_in _ (by omega)
                have f8 : ((ns : Int) == 0) = false := by simp; omega
                have f9 : ¬ (ns : Int) = 0 := by omega
                clear hh
                go_wp2_with fail
                go_region_held3 (fun V => V.cell? ⟨g, j * 3, none⟩ = some (.int .i64 node') ∧ V.cell? ⟨g, j * 3 + 1, none⟩ = some (.slice Av' an'.length cv'))
                  (first | exact hst' | exact HC8.out)
                  (first | (go_at_call 19; refine K1.out.mono ?_; rintro e8 w8 ⟨rfl, h8⟩; have HC8 : Hid (w8.cell? ⟨g, j * 3, none⟩ = some (.int .i64 node') ∧ w8.cell? ⟨g, j * 3 + 1, none⟩ = some (.slice Av' an'.length cv')) := Lib.hid (by obtain ⟨z0, z1, _⟩ := HAt'.out w8 (HK1.out.trans h8.out.2) h8.out.1.old; exact ⟨z0, z1⟩)))
                have HE : Hid (Pr X w n True 55 r1 n la' True 55 r2 n lb' w8 ∧ Kept X V1 w8) := Lib.hid ⟨h8.out.1.swap, HK1.out.trans h8.out.2⟩
                clear h8 HC8 HK1 K1 HAt' hst'
                go_wp2_with fail
                exact ⟨⟨i + 1, la', lb', rfl, by omega, Lib.hid ⟨HE.out.1, HE.out.2, HF1.out.1, HF1.out.2⟩⟩, by simp only [intOf]; omega⟩
            · have him : ns = i := by omega
              subst him
              have hsame : lb = la := by
                have h1 := hJ.out.2.2.1
                have h2 := hJ.out.2.2.2
                rw [List.take_of_length_le (by have := HSel.out.2; omega)] at h1
                rw [h1, h2, ← HSel.out.2]
                exact order_same _ HSel.out.1 odd
              subst hsame
              have K0 := Lib.hid (hJ.out.1.below (Below.refl _ wr).drew)
              obtain ⟨D, hD⟩ : ∃ D, doneF n lb = D := ⟨_, rfl⟩
              obtain ⟨wl, hwl⟩ : ∃ z, waitsF lb = z := ⟨_, rfl⟩
              obtain ⟨wk, hwk⟩ : ∃ q, wl.length = q := ⟨_, rfl⟩
              obtain ⟨vl, hvl⟩ : ∃ z, versF lb = z := ⟨_, rfl⟩
              obtain ⟨vk, hvk⟩ : ∃ z, vl.length = z := ⟨_, rfl⟩
              have hv4 : vk ≤ 1024 := by rw [← hvk, ← hvl]; exact vers_small lb
              have hw8 : wk ≤ 8 := by
                have h1 := waits_len lb
                have h2 := hJ.out.1.len
                rw [hwl, hwk] at h1
                omega
              have HF := Lib.hid (And.intro hD (And.intro hwl (And.intro hwk (And.intro hvl hvk))))
              have bD : (D == D) = true := by simp
              clear hD hwl hwk hvl hvk hJ
              go_wp2_with fail
              go_region_held3 (fun _ => True)
                (trivial)
                (first
                  | (go_at_call 24; (fail_if_success have _t := K1); refine (K0.out.vers).mono ?_; rintro e1 y1 ⟨Z1, k1, he1, g1, c1⟩; rw [HF.out.2.2.2.1] at he1 g1; rw [HF.out.2.2.2.2] at he1; subst he1; have K1 := Lib.hid (K0.out.below c1).swap)
                  | (go_at_call 24; refine (K1.out.vers).mono ?_; rintro e2 y2 ⟨Z2, k2, he2, g2, c2⟩; rw [HF.out.2.2.2.1] at he2 g2; rw [HF.out.2.2.2.2] at he2; subst he2; have K2 := Lib.hid (K1.out.below c2).swap)
                  | (go_at_call 23; refine (ref_sameV_any Z1 Z2 k1 k2 vk vk vl vl HF.out.2.2.2.2 HF.out.2.2.2.2 y2 (((g1.out.2.less (Nat.zero_le _)).below c2).more c2.size) (g2.out.2.less (Nat.zero_le _)) (by omega) (by omega)).mono ?_; rintro e3 y3 ⟨he3, c3⟩; rw [decide_eq_true rfl] at he3; subst he3; have K3 := Lib.hid (K2.out.below c3))
                  | (go_at_call 22; (fail_if_success have _t := K4); refine (K3.out.waitsR).mono ?_; rintro e4 y4 ⟨Z4, k4, he4, g4, c4⟩; rw [HF.out.2.1] at he4 g4; rw [HF.out.2.2.1] at he4; subst he4; have K4 := Lib.hid (K3.out.below c4).swap)
                  | (go_at_call 22; refine (K4.out.waitsR).mono ?_; rintro e5 y5 ⟨Z5, k5, he5, g5, c5⟩; rw [HF.out.2.1] at he5 g5; rw [HF.out.2.2.1] at he5; subst he5; have K5 := Lib.hid (K4.out.below c5).swap)
                  | (go_at_call 15; refine (ints_any Z4 Z5 k4 k5 wk wk wl wl HF.out.2.2.1 HF.out.2.2.1 y5 ((g4.out.1.below c5).more c5.size) g5.out.1 (by omega) (by omega)).mono ?_; rintro e6 y6 ⟨he6, c6⟩; rw [decide_eq_true rfl] at he6; subst he6; have K6 := Lib.hid (K5.out.below c6))
                  | (go_at_call 21; (fail_if_success have _t := K7); refine (K6.out.doneR).mono ?_; rintro e7 y7 ⟨he7, c7⟩; rw [HF.out.1] at he7; subst he7; have K7 := Lib.hid (K6.out.below c7).swap)
                  | (go_at_call 21; refine (K7.out.doneR).mono ?_; rintro e8 y8 ⟨he8, c8⟩; rw [HF.out.1] at he8; subst he8; have K8 := Lib.hid (K7.out.below c8)))
              have HE := Lib.hid K8.out.old
              clear K0 K1 K2 K3 K4 K5 K6 K7 K8 g1 g2 g4 g5 c1 c2 c3 c4 c5 c6 c7 c8
              go_wp2_with fail
              go_ret
              exact ⟨rfl, HE.out⟩
  · rw [decide_eq_false ok] at H1
    clear ok
    go_wp2_with fail
    refine H1.mono ?_
    rintro e w2 ⟨rfl, b2⟩
    have o2 := b1.trans (b2.mono b1.size)
    clear H1 b1 b2
    go_wp2_with fail
    refine (awake_any w2).mono ?_
    rintro e w3 ⟨rfl, b3⟩
    have o3 := o2.trans (b3.mono o2.size)
    go_wp2_with fail
    go_ret
    exact ⟨rfl, o3⟩
-- ROW BEGIN
set_option maxRecDepth 100000 in
/-- What the walk gives, shut again. -/
theorem contract (H : Type) (enc : TypeId × Value → H) (W : World) (base : Nat) (args : Array Value) (ds gs : List (DataW H)) (before : List MemPlace)
    (hval : ∀ (j : Nat) t v, Try.f5.params[j]? = some t → args[j]? = some v → Value.okWide Try.prog W .any base t v)
    (hW : DataW.Whole enc Try.prog Try.f5.params.toList Rows.quorumOrderSpec.vars false W args.toList ds gs before)
    (hsz : (DataW.weightsEach Try.prog (Try.f5.params.toList ++ Rows.quorumOrderSpec.plain.varTypes Try.prog) (ds ++ gs)).all (· ≤ reachBytes) = true) (hk : Rows.uptoSmall H (ds ++ gs) = true) :
    Calls Try.prog 5 args W fun e W' => ∃ v, e = .returned v ∧ Rows.quorumOrderSpec.post enc Try.prog Try.f5 false true false false W args v W' := by
  have hW' := hW
  obtain ⟨p, q, hA0, hV, hbef, _, _⟩ := hW
  have hA : DataW.TrodAll enc Try.prog W 0 (fun _ => true) true Try.f5.params.toList args.toList ds p := hA0
  have hA1 := hA
  rw [Try.params5] at hA hval hsz
  obtain ⟨v0, vs0, d0, ds0, p0, q0, hargs, rfl, rfl, h0, r0⟩ := trodAll_cons hA
  obtain ⟨v1, vs1, d1, ds1, p1, q1, rfl, rfl, rfl, h1, r1⟩ := trodAll_cons r0
  obtain ⟨v2, vs2, d2, ds2, p2, q2, rfl, rfl, rfl, h2, r2⟩ := trodAll_cons r1
  obtain ⟨rfl, rfl, rfl⟩ := trodAll_nil r2
  obtain rfl : args = #[v0, v1, v2] := by cases args; simp_all
  obtain ⟨rfl, rfl⟩ := trodVars_none hV
  clear hA hargs
  obtain ⟨A0, c0, a0, rfl, n0, w0, l0, _, o0⟩ := open_ns Try.underlying22 Try.underlying3 Facts.cells3 (hval 0 22 v0 rfl rfl) h0
  have b0 := reach_ns hsz (j := 0) rfl rfl Try.underlying22 Facts.bytes3 l0 o0
  obtain ⟨A1, c1, a1, rfl, n1, l1, b1⟩ := Quorum.arg_reps (hval 1 42 v1 rfl rfl) h1 (Wgt.wt_arg hsz (j := 1) rfl rfl)
  obtain ⟨a2, rfl, rfl, _, w2⟩ := open_int Try.underlying3 (hval 2 3 v2 rfl rfl) h2
  have hbulk : a0.length + (Quorum.allV a1).length ≤ 1048576 := by
    have h := Bulk.bound hk
    have e0 := Bulk.ns_le (H := H) o0 l0
    have e1 := Quorum.reps_bulk h1 n1
    simp only [List.append_nil, Rows.uptoBulkAll] at h
    omega
  refine (walk W A0 c0 a0 n0 (fun z hz => wf_int (w0 z hz)) (by omega) l0 A1 c1 a1 n1 b1 l1 a2 (wf_int w2) hbulk).mono fun e W' ⟨he, hb⟩ => ?_
  subst he
  exact ⟨_, rfl, law_post Facts.laid (by rfl) Try.underlying4 (by rw [Try.params5]; decide +kernel) hW' hA1 rfl hbef rfl rfl rfl hb⟩

set_option maxRecDepth 100000 in
theorem lifted (os : Os) (started : os.Started) (H : Type) (enc : TypeId × Value → H) (F : Stop.Interp) :
    ReturnsInHanded {} Try.checked os 5 .any ((Rows.OpenSpec.upto Rows.quorumOrderSpec).pre6 enc Try.prog Try.f5 Rows.quorumOrderUptoRow.domain false) (((Rows.OpenSpec.upto Rows.quorumOrderSpec).at F).post enc Try.prog Try.f5 false true false false) := by
  refine returnsInHanded_of_cond_sized (C := Try.checked) (s := Rows.OpenSpec.upto Rows.quorumOrderSpec) (k := Rows.uptoSmall) rfl Facts.own started (by kernel_rfl) Try.func5
    (OpenSpec.witness (enc := enc) (C := Try.checked) (s := Rows.OpenSpec.upto Rows.quorumOrderSpec) (k := Rows.uptoSmall) rfl false ⟨#[], #[.slice none 0 0, .slice none 0 0, .int .i64 0], []⟩ 8 (by kernel_rfl) (by kernel_rfl) (by kernel_rfl)
      (x := ([.nil, .nil, .lit (.int .i64 0)], [], [])) (by kernel_rfl) rfl (by kernel_rfl)) ?_
  intro W base args ds gs before hval hW _ hk hsz _
  exact contract H enc W base args ds gs before hval hW hsz hk

theorem holds : Rows.QuorumOrderUptoSaid :=
  OpenClaim.holds_of_cond 5 Try.f5 rfl rfl rfl rfl rfl rfl rfl ⟨rfl, rfl, rfl, rfl, rfl⟩ rfl rfl rfl rfl rfl (by kernel_rfl) Try.func5 (by kernel_rfl)
    (of_decide_eq_true (by kernel_rfl)) (by unfold Func.isWrapper; first | (rw [if_pos (by decide +kernel)]; kernel_rfl) | (rw [if_neg (by decide +kernel)]; exact ⟨rfl, rfl⟩))
    (fun os started H enc _ F => lifted os started H enc F)
-- ROW END
end QuorumOrder
end Go.Proofs.Ytbhidndgnldheaa
