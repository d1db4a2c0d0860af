/-
  FrameAll (P2.4): what is framed is taken out again, in order; of bytes that are cut off anywhere just the whole frames are. Of inputs of bulk up to 1048576 (lists may hold one and the same bytes many times over: what is framed of them is too long for memory).
-/
import Derived.Test.YtgiojcjnljmaiaaAlls
import Derived.Test.YtgiojcjnljmaiaaAllCut
import Derived.Test.YtgiojcjnljmaiaaListsRow
import Derived.Test.YtgiojcjnljmaiaaListsSame
import Derived.Test.YtgiojcjnljmaiaaPut
import Derived.Test.YtgiojcjnljmaiaaBulk
import Derived.Deep.DeepCutAuto
import Derived.Deep.CutBlock
namespace Go.Proofs.Ytgiojcjnljmaiaa
namespace FrameAll
open Go.ChangeShapes Go.WideShapes Go.ChangeAt Go.RowKit Frm Num

theorem info_int : (Try.prog.info? 3).map (fun i => (i.zero, i.size, i.bytes)) = some (some (.int .i64 0), 1, 8) := by kernel_rfl

/-- Two rows of unlike elements are two. -/
theorem rows_apart {w : World} {b b' : Nat} {e e' : TypeId} {s s' n n' : Nat} {v v' : Value} {xs xs' : List Value} (h : w.ownsRow b e s v n xs) (h' : w.ownsRow b' e' s' v' n' xs') (hne : e ≠ e') : ∀ g, v.ownBlock = some g → v'.ownBlock ≠ some g := by
  intro g hg hg'
  rcases h.2 with ⟨rfl, _⟩ | ⟨g1, cap, cur, rfl, _, h1, _⟩
  · cases hg
  · rcases h'.2 with ⟨rfl, _⟩ | ⟨g2, cap', cur', rfl, _, h2, _⟩
    · cases hg'
    · cases hg
      cases hg'
      rw [h1] at h2
      injection h2 with h2
      injection h2 with _ h2
      exact hne h2

/-- What is framed of the first k lists; where these end. -/
def fl (ps : List (List Int)) (k : Nat) : List Int := ((ps.take k).map frameF).flatten
def en (ps : List (List Int)) (k : Nat) : List Int := (endsF 0 (ps.take k)).map (fun n : Nat => (n : Int))

theorem take_more {ps : List (List Int)} {k : Nat} (h : k < ps.length) : ps.take (k + 1) = ps.take k ++ [ps.getD k []] := by
  rw [List.take_succ_eq_append_getElem h]
  simp [List.getD_eq_getElem?_getD, h]
theorem fl_more {ps : List (List Int)} {k : Nat} (h : k < ps.length) : fl ps (k + 1) = fl ps k ++ frameF (ps.getD k []) := by
  unfold fl
  rw [take_more h]
  simp
theorem en_more {ps : List (List Int)} {k : Nat} (h : k < ps.length) : en ps (k + 1) = en ps k ++ [((fl ps (k + 1)).length : Int)] := by
  rw [fl_more h]
  unfold en
  rw [take_more h, ends_more, List.map_append]
  simp [fl]
theorem en_len {ps : List (List Int)} {k : Nat} (h : k ≤ ps.length) : (en ps k).length = k := by
  unfold en
  rw [List.length_map, ends_len, List.length_take]
  omega

theorem frame_weight (p : List Int) : (frameF p).length ≤ 13 * (p.length + 1) := by
  have h1 := frame_len p
  have h2 := putL_len (p.length : Int)
  omega
theorem flat_weight : ∀ (ps : List (List Int)), ((ps.map frameF).flatten).length ≤ 13 * weight ps
  | [] => by simp
  | p :: ps => by
    have ih := flat_weight ps
    have h1 := frame_weight p
    simp only [List.map_cons, List.flatten_cons, List.length_append, weight, List.sum_cons] at ih ⊢
    omega
theorem flat_bytes : ∀ (ps : List (List Int)), (∀ q ∈ ps, ∀ z ∈ q, 0 ≤ z ∧ z ≤ 255) → ∀ z ∈ (ps.map frameF).flatten, 0 ≤ z ∧ z ≤ 255
  | [], _, z, hz => by simp at hz
  | p :: ps, h, z, hz => by
    rw [List.map_cons, List.flatten_cons] at hz
    rcases List.mem_append.1 hz with hz | hz
    · exact frame_bytes (h p (by simp)) z hz
    · exact flat_bytes ps (fun q hq => h q (by simp [hq])) z hz
theorem fl_le (ps : List (List Int)) (k : Nat) : (fl ps k).length ≤ 13 * weight ps := by
  have h := flat_weight ps
  have e : ps.map frameF = (ps.take k).map frameF ++ (ps.drop k).map frameF := by rw [← List.map_append, List.take_append_drop]
  rw [e, List.flatten_append, List.length_append] at h
  unfold fl
  omega

theorem parts_take {w : World} {B : Nat} {A : Option Addr} {ps : List (List Int)} (h : Parts w B A ps) (k : Nat) : Parts w B A (ps.take k) := fun hp => by
  rw [List.length_take] at hp
  obtain ⟨b, off, e, hb, hc⟩ := h (by omega)
  refine ⟨b, off, e, hb, fun j hj => ?_⟩
  rw [List.length_take] at hj
  obtain ⟨A', c', h1, h2, h3⟩ := hc j (by omega)
  have e1 : (ps.take k).getD j [] = ps.getD j [] := by simp [List.getD_eq_getElem?_getD, show j < k by omega]
  rw [e1]
  exact ⟨A', c', h1, h2, h3⟩

/-- Where the loop over the ends is. -/
def Ahead (ps : List (List Int)) (m j e : Nat) : Prop :=
  j ≤ ps.length ∧ e ≤ m ∧ wholeF 0 m ps = j + wholeF e m (ps.drop j) ∧ lastF 0 m ps = lastF e m (ps.drop j) ∧ (endsF 0 ps).drop j = endsF e (ps.drop j)
theorem ahead_start (ps : List (List Int)) (m : Nat) : Ahead ps m 0 0 := ⟨by omega, by omega, by simp, by simp, by simp⟩
theorem ahead_drop {ps : List (List Int)} {j : Nat} (h : j < ps.length) : ps.drop j = ps.getD j [] :: ps.drop (j + 1) := by
  rw [List.drop_eq_getElem_cons h]
  simp [List.getD_eq_getElem?_getD, h]
theorem ahead_at {ps : List (List Int)} {m j e : Nat} (h : Ahead ps m j e) (hj : j < ps.length) : ((endsF 0 ps).map (fun n : Nat => (n : Int))).getD j 0 = ((e + (frameF (ps.getD j [])).length : Nat) : Int) := by
  obtain ⟨_, _, _, _, h5⟩ := h
  rw [ahead_drop hj, endsF] at h5
  have h6 : (endsF 0 ps)[j]? = some (e + (frameF (ps.getD j [])).length) := by
    have h7 : ((endsF 0 ps).drop j)[0]? = some (e + (frameF (ps.getD j [])).length) := by rw [h5]; rfl
    simpa using h7
  simp [List.getD_eq_getElem?_getD, List.getElem?_map, h6]
theorem ahead_more {ps : List (List Int)} {m j e : Nat} (h : Ahead ps m j e) (hj : j < ps.length) (he : e + (frameF (ps.getD j [])).length ≤ m) : Ahead ps m (j + 1) (e + (frameF (ps.getD j [])).length) := by
  obtain ⟨_, _, h3, h4, h5⟩ := h
  rw [ahead_drop hj] at h3 h4 h5
  rw [(whole_step _ he).1] at h3
  rw [(whole_step _ he).2] at h4
  rw [endsF] at h5
  refine ⟨by omega, he, by omega, h4, ?_⟩
  have h6 : ((endsF 0 ps).drop j).drop 1 = (endsF 0 ps).drop (j + 1) := by rw [List.drop_drop]
  rw [← h6, h5]
  rfl
theorem ahead_stop {ps : List (List Int)} {m j e : Nat} (h : Ahead ps m j e) (hj : j < ps.length) (he : ¬ e + (frameF (ps.getD j [])).length ≤ m) : wholeF 0 m ps = j ∧ lastF 0 m ps = e := by
  obtain ⟨_, _, h3, h4, _⟩ := h
  rw [ahead_drop hj] at h3 h4
  rw [(whole_stop _ he).1] at h3
  rw [(whole_stop _ he).2] at h4
  exact ⟨by omega, h4⟩
theorem ahead_end {ps : List (List Int)} {m e : Nat} (h : Ahead ps m ps.length e) : wholeF 0 m ps = ps.length ∧ lastF 0 m ps = e := by
  obtain ⟨_, _, h3, h4, _⟩ := h
  rw [List.drop_length] at h3 h4
  exact ⟨by rw [h3]; simp [wholeF], by rw [h4]; simp [lastF]⟩

/-- Where the loop over the lists is. -/
def Lap (ps : List (List Int)) (w : World) (v u q : Value) (wr : World) : Prop :=
  ∃ k : Nat, q = .int .i64 k ∧ k ≤ ps.length ∧ wr.ownsRow w.heap.size 5 1 v (fl ps k).length (nums .u8 (fl ps k)) ∧ wr.ownsRow w.heap.size 3 1 u k (nums .i64 (en ps k)) ∧ Below w.heap.size w wr

set_option maxRecDepth 100000 in
theorem walk (w : World) (A : Option Addr) (c : Nat) (ps : List (List Int)) (hp : Parts w w.heap.size A ps) (hby : ∀ q ∈ ps, ∀ z ∈ q, 0 ≤ z ∧ z ≤ 255) (hlc : ps.length ≤ c) (hA : A = none → c = 0) (cut : Int) (_ : -9223372036854775808 ≤ cut ∧ cut ≤ 9223372036854775807) (hbulk : weight ps ≤ 1048576) :
    Calls Try.prog 4 #[.slice A ps.length c, .int .i64 cut] w fun e w' => e = .returned (.bool true) ∧ Below w.heap.size w w' := by
  obtain ⟨i0, hi0, hz0, hz1, hz2⟩ := info_parts Facts.info5
  obtain ⟨i1, hi1, hy0, hy1, hy2⟩ := info_parts info_int
  have hlen := weight_len ps
  have HP := Lib.hid (And.intro hp (And.intro hby (And.intro hA hbulk)))
  clear hp hby hA
  go_enter Try.func4, Try.ntmps4
  go_wp2
  go_loopw [5, 6, 7] (fun v u q wr => Lap ps w v u q wr) (fun _ _ q _ => ps.length - (intOf q).toNat)
  case atStart => exact ⟨0, rfl, by omega, World.ownsRow_nil _ _ _ _, World.ownsRow_nil _ _ _ _, Below.refl _ _⟩
  case round =>
    obtain ⟨k, rfl, hk, hv, hu, hb⟩ := hrel
    have hsz := hb.size
    by_cases hlt : k < ps.length
    · obtain ⟨b, off, rfl, hbb, hc⟩ := (HP.out.1.below hb) (by omega)
      obtain ⟨A1, c1, e1, n1, l1⟩ := hc k hlt
      have hqm : ps.getD k [] ∈ ps := by
        rw [List.getD_eq_getElem?_getD, List.getElem?_eq_getElem hlt]
        exact List.getElem_mem _
      have hqb := HP.out.2.1 _ hqm
      have hql : (ps.getD k []).length ≤ 1048576 := by have := weight_mem _ hqm; omega
      have hfm := fl_more hlt
      have hem := en_more hlt
      have hle := fl_le ps (k + 1)
      obtain ⟨zs, hz⟩ : ∃ zs, ps.getD k [] = zs := ⟨_, rfl⟩
      rw [hz] at e1 n1 l1 hqb hql hfm
      have h1 := put_any A1 c1 zs wr (n1.more hsz) hqb l1 hql
      obtain ⟨X, hX⟩ : ∃ X, frameF zs = X := ⟨_, rfl⟩
      obtain ⟨V, hV⟩ : ∃ V, fl ps k = V := ⟨_, rfl⟩
      obtain ⟨E, hE⟩ : ∃ E, en ps k = E := ⟨_, rfl⟩
      rw [hX] at h1 hfm
      rw [hV] at hv hfm
      rw [hE] at hu hem
      have hlX : V.length + X.length ≤ 13631488 := by rw [hfm, List.length_append] at hle; omega
      have d1 : (0 : Int) ≤ (k : Int) := by omega
      have d2 : (k : Int) < (ps.length : Int) := by omega
      have H1 := Lib.hid h1
      have H2 := Lib.hid (And.intro hfm (And.intro hem (And.intro hu hv)))
      have HB := Lib.hid hb
      clear hc hz hX hV hE h1 hfm hem hqb hqm hle hu hv hb n1
      go_wp2_with fail
      refine H1.out.mono ?_
      rintro e w1 ⟨A2, c2, rfl, o1, b1⟩
      have hv1 := own_below H2.out.2.2.2 b1 (Nat.le_refl _)
      have hu1 := own_below H2.out.2.2.1 b1 (Nat.le_refl _)
      have nX := own_ns o1
      have hb1 := HB.out.trans (b1.mono hsz)
      have hsz1 := hb1.size
      clear o1 b1
      have hU : ∀ (W : World), w1.grownBy W _ → W.ownsRow w.heap.size 3 1 u6 k (nums .i64 E) := fun W g2 => hu1.kept g2 (by
        rcases hn : u6.ownBlock with _ | g
        · exact .inl rfl
        · exact .inr (fun e => rows_apart hu1 hv1 (by decide) g hn e.symm))
      have HU := Lib.hid hU
      clear hU hu1
      go_wp2_with (first
        | (at_builtin; refine wpList_append_ns _ rfl (.tmp 42) (.tmp 43) 22 rfl w.heap.size 5 i0 (.int .u8 0) 1 Try.underlying22 hi0 hz0 hz1 hz2 rfl _ V.length (nums .u8 V) rfl hv1 .u8 w1.heap.size A2 X.length c2 X rfl rfl nX (by omega) (by omega) hsz1 ?_; intro v2 w2 o2 g2 at2; have hu2 := HU.out _ g2; have hb2 := hb1.grown g2 hsz1 (fun k hk => (hv1.lt k hk).1); have hsz2 := hb2.size; obtain ⟨A3, c3, rfl⟩ := own_form o2; clear g2 at2)
        | (at_builtin; refine wpList_append_one _ rfl (.tmp 45) (.tmp 48) 31 rfl w.heap.size 3 i1 (.int .i64 0) 8 Try.underlying31 hi1 hy0 hy1 hy2 rfl u6 k (nums .i64 E) rfl hu2 (.int .i64 ((V.length : Int) + X.length)) 1 rfl rfl (by omega) (by omega) hsz2 ?_; intro v3 w3 o3 g3 at3))
      case roundEnd =>
        refine ⟨⟨k + 1, rfl, by omega, ?_, ?_, hb2.grown g3 hsz2 (fun k hk => (hu2.lt k hk).1)⟩, by simp only [intOf]; omega⟩
        · have o2' := o2.kept g3 (by
            rcases hn : u6.ownBlock with _ | g
            · rcases hn' : (Value.slice A3 (V.length + X.length) c3).ownBlock with _ | g'
              · exact .inl rfl
              · exact .inr (by simp)
            · exact .inr (rows_apart hu2 o2 (by decide) g hn))
          rw [H2.out.1, List.length_append]
          simpa [nums] using o2'
        · rw [H2.out.2.1, H2.out.1, List.length_append]
          simpa [nums] using o3
    · obtain rfl : k = ps.length := by omega
      have hF : fl ps ps.length = (ps.map frameF).flatten := by unfold fl; rw [List.take_length]
      have hE : en ps ps.length = (endsF 0 ps).map (fun n : Nat => (n : Int)) := by unfold en; rw [List.take_length]
      have hle := fl_le ps ps.length
      have hbs := flat_bytes ps HP.out.2.1
      have hall := allF_puts ps [] (fl ps ps.length).length (fun z hz => by have := weight_mem z hz; omega) (by
        rw [hF]
        have : ∀ l : List (List Int), l.length ≤ ((l.map frameF).flatten).length := by
          intro l
          induction l with
          | nil => simp
          | cons p l ih =>
            have := frame_len p
            simp only [List.map_cons, List.flatten_cons, List.length_append, List.length_cons]
            omega
        exact this ps)
      rw [List.nil_append, ← hF] at hall
      rw [← hF] at hbs
      obtain ⟨V, hV⟩ : ∃ V, fl ps ps.length = V := ⟨_, rfl⟩
      rw [hV] at hall hbs hle hv hF
      rw [hE] at hu
      obtain ⟨Ab, cb, rfl⟩ := own_form hv
      have nV := own_ns hv
      have hlv := (own_len hv).2
      have h1 := all_any Ab cb V wr nV hbs hlv (by omega)
      simp only [List.length_nil, Nat.zero_add] at hall
      rw [hall] at h1
      have H1 := Lib.hid h1
      have HV := Lib.hid (And.intro hbs (And.intro hF (And.intro hv hu)))
      have HB := Lib.hid hb
      have hlV : V.length ≤ 13631488 := by omega
      clear hF hE hbs hall hV h1 nV hv hu hb hle
      go_wp2_with fail
      refine H1.out.mono ?_
      rintro e w1 ⟨Al, cl, rfl, ol, bl⟩
      have b1 := HB.out.trans (bl.mono hsz)
      have hsz1 := b1.size
      have HV1 := Lib.hid (And.intro (own_below HV.out.2.2.1 bl (Nat.le_refl _)) (own_below HV.out.2.2.2 bl (Nat.le_refl _)))
      have pl := ol.parts
      have pA := (HP.out.1.below b1)
      have hcl : ps.length ≤ 1048576 := by have := HP.out.2.2.2; omega
      have B1 := Lib.hid b1
      clear ol bl b1
      go_wp2_with fail
      refine Calls.mono (lists_same Al A cl c ps.length ps.length ps rfl rfl _ _ w1 (Nat.le_refl _) hsz1 pl pA (by omega)) ?_
      rintro e w2 ⟨rfl, b2⟩
      have HV2 := Lib.hid (And.intro (own_below HV1.out.1 b2 (Nat.le_refl _)) (own_below HV1.out.2 b2 (Nat.le_refl _)))
      have B2 := Lib.hid (B1.out.trans (b2.mono hsz1))
      clear b2 pl pA
      by_cases hcut : cut < 0 ∨ (V.length : Int) < cut
      · clear HP HV HV1 HV2 H1 HB B1
        rcases hcut with h0 | h0
        · go_wp2_with fail
          go_ret
          exact ⟨rfl, B2.out⟩
        · have h1 : decide (cut < 0) = false := decide_eq_false (by omega)
          go_wp2_with fail
          go_ret
          exact ⟨rfl, B2.out⟩
      · obtain ⟨m, rfl⟩ : ∃ m : Nat, cut = m := ⟨cut.toNat, by omega⟩
        have hm : m ≤ V.length := by omega
        have d1 : decide (((m : Nat) : Int) < 0) = false := decide_eq_false (by omega)
        have d2 : decide (V.length < m) = false := decide_eq_false (by omega)
        have hu2 := HV2.out.2
        obtain ⟨Ae, ce, rfl⟩ := own_form hu2
        have hEl : ((endsF 0 ps).map (fun n : Nat => (n : Int))).length = ps.length := by rw [List.length_map, ends_len]
        have nE := own_ns (zs := (endsF 0 ps).map (fun n : Nat => (n : Int))) (by rw [hEl]; exact hu2)
        have HE := Lib.hid (And.intro nE hEl)
        clear hu2 nE hEl hcut H1 HB HV1
        go_upto_block 2 with fail
        go_cut [13, 14] (fun p q wr => ∃ j e : Nat, p = .int .i64 j ∧ q = .int .i64 e ∧ Hid (wholeF 0 m ps = j ∧ lastF 0 m ps = e) ∧ wr = w2)
        case first =>
          go_wp2_with fail
          go_loopw [13, 14] (fun p q wr => ∃ j e : Nat, p = .int .i64 j ∧ q = .int .i64 e ∧ Ahead ps m j e ∧ wr = w2) (fun p _ _ => ps.length - (intOf p).toNat)
          case atStart => exact ⟨0, 0, rfl, rfl, ahead_start ps m, rfl⟩
          case round =>
            obtain ⟨j, e, rfl, rfl, ha, rfl⟩ := hrel
            by_cases hj : j < ps.length
            · have hat := ahead_at ha hj
              obtain ⟨b', off', rfl, _, hc⟩ := HE.out.1 (by rw [HE.out.2]; omega)
              have ec := hc j (by rw [HE.out.2]; exact hj)
              rw [hat] at ec
              have hmo := ahead_more ha hj
              have hst := ahead_stop ha hj
              obtain ⟨x, hx⟩ : ∃ x, e + (frameF (ps.getD j [])).length = x := ⟨_, rfl⟩
              rw [hx] at ec hmo hst
              have i1 : (0 : Int) ≤ (j : Int) := by omega
              have i2 : (j : Int) < (ps.length : Int) := by omega
              have i3 : decide ((j : Int) < (ps.length : Int)) = true := decide_eq_true i2
              have i4 : decide (j < ps.length) = true := decide_eq_true hj
              have HS := Lib.hid (And.intro hmo hst)
              clear hc hat hmo hst hx ha
              by_cases hle : x ≤ m
              · have j1 : decide (x ≤ m) = true := decide_eq_true hle
                have HM := Lib.hid (HS.out.1 hle)
                go_wp2_with fail
                case roundEnd => exact ⟨⟨j + 1, x, rfl, rfl, HM.out, trivial⟩, by simp only [intOf]; omega⟩
              · have j1 : decide (x ≤ m) = false := decide_eq_false hle
                have HM := Lib.hid (HS.out.2 hle)
                go_wp2_with fail
                go_meet
                exact ⟨j, e, rfl, rfl, HM, rfl⟩
            · obtain rfl : j = ps.length := by have := ha.1; omega
              have HM := Lib.hid (ahead_end ha)
              clear ha
              go_wp2_with fail
              go_meet
              exact ⟨ps.length, e, rfl, rfl, HM, rfl⟩
        case rest =>
          obtain ⟨j, e, rfl, rfl, hje, rfl⟩ := hcut
          have hj : j ≤ ps.length := by rw [← hje.out.1]; exact whole_le _ _ _
          have hem : e ≤ m := by rw [← hje.out.2]; exact last_le _ _ _ (by omega)
          have hbm : ∀ z ∈ V.take m, 0 ≤ z ∧ z ≤ 255 := fun z hz => HV.out.1 z (List.mem_of_mem_take hz)
          have hlm : (V.take m).length = m := by rw [List.length_take]; omega
          have hall := allF_cut ps [] (m + (ps.length + 1)) m (fun z hz => by have := weight_mem z hz; have := HP.out.2.2.2; omega) (by omega) (by simp) (by simp only [List.length_nil, Nat.zero_add]; rw [← HV.out.2.1]; exact hm)
          rw [List.nil_append, ← HV.out.2.1, List.length_nil, allF_more hbm _ m 0 (by omega) (by omega), hje.out.1, hje.out.2] at hall
          have hv2 := HV2.out.1
          have hlv := (own_len hv2).2
          have h1 := all_any Ab cb (V.take m) wc ((own_ns hv2).take m) hbm (by omega) (by omega)
          rw [hlm, hall] at h1
          have mb : Option.map (fun x => x.add 0) Ab = Ab := by cases Ab <;> rfl
          have ma : Option.map (fun x => x.add 0) A = A := by cases A <;> rfl
          have hjl : (ps.take j).length = j := by rw [List.length_take]; omega
          have i1 : (0 : Int) ≤ (m : Int) := by omega
          have i2 : (m : Int) ≤ (cb : Int) := by omega
          have i3 : (0 : Int) ≤ (j : Int) := by omega
          have i4 : (j : Int) ≤ (c : Int) := by omega
          have H1 := Lib.hid h1
          have HJ := Lib.hid hjl
          have hcl : ps.length ≤ 1048576 := by have := HP.out.2.2.2; omega
          clear hbm hlm hall hv2 h1 hje hjl HE
          have hszB := B2.out.size
          have tail : ∀ cx, codeF e m = cx → Calls Try.prog 5 #[.slice Ab m cb] wc (fun r w' => ∃ Am cm, r = .returned (.tuple #[.slice Am j cm, .int .i64 e, .int .i64 cx]) ∧ Parts w' w'.heap.size Am (ps.take j) ∧ Below wc.heap.size wc w') := by
            intro cx hcx
            rw [hcx] at H1
            refine H1.out.mono ?_
            rintro r w' ⟨Am, cm, rfl, o, b⟩
            simp only at o
            exact ⟨Am, cm, by rw [HJ.out], o.parts, b⟩
          have pA := HP.out.1.below B2.out
          have PA := Lib.hid (parts_take pA j)
          clear pA HP HV HV2 H1
          by_cases he : e = m
          · have T := Lib.hid (tail 0 (by rw [codeF, if_pos he]))
            clear tail
            subst he
            go_wp2_with fail
            refine T.out.mono ?_
            rintro r w3 ⟨Am, cm, rfl, pm, b3⟩
            have PM := Lib.hid pm
            have B3 := Lib.hid (B2.out.trans (b3.mono hszB))
            have PA3 := Lib.hid (PA.out.below (b3.mono hszB))
            clear pm b3
            go_wp2_with fail
            refine Calls.mono (lists_same Am A cm c j j (ps.take j) HJ.out HJ.out _ _ w3 (Nat.le_refl _) B3.out.size PM.out PA3.out (by omega)) ?_
            rintro r w4 ⟨rfl, b4⟩
            have R := B3.out.trans (b4.mono B3.out.size)
            clear b4
            go_wp2_with fail
            go_ret
            exact ⟨rfl, R⟩
          · have T := Lib.hid (tail 4 (by rw [codeF, if_neg he]))
            have he1 : ((e : Int) == (m : Int)) = false := by simp; omega
            have he2 : (e == m) = false := by simpa using he
            clear tail he
            go_wp2_with fail
            refine T.out.mono ?_
            rintro r w3 ⟨Am, cm, rfl, pm, b3⟩
            have PM := Lib.hid pm
            have B3 := Lib.hid (B2.out.trans (b3.mono hszB))
            have PA3 := Lib.hid (PA.out.below (b3.mono hszB))
            clear pm b3
            go_wp2_with fail
            refine Calls.mono (lists_same Am A cm c j j (ps.take j) HJ.out HJ.out _ _ w3 (Nat.le_refl _) B3.out.size PM.out PA3.out (by omega)) ?_
            rintro r w4 ⟨rfl, b4⟩
            have R := B3.out.trans (b4.mono B3.out.size)
            clear b4
            go_wp2_with fail
            go_ret
            exact ⟨rfl, R⟩
-- ROW BEGIN
/-- What the walk gives, shut again. -/
theorem contract (H : Type) (enc : TypeId × Value → H) (W : World) (base : Nat) (args : Array Value) (ds gs : List (DataW H)) (before : List MemPlace)
    (hval : ∀ (j : Nat) t v, Try.f4.params[j]? = some t → args[j]? = some v → Value.okWide Try.prog W .any base t v)
    (hW : DataW.Whole enc Try.prog Try.f4.params.toList Rows.frameAllSpec.vars false W args.toList ds gs before)
    (hsz : (DataW.weightsEach Try.prog (Try.f4.params.toList ++ Rows.frameAllSpec.plain.varTypes Try.prog) (ds ++ gs)).all (· ≤ reachBytes) = true) (hk : Rows.uptoSmall H (ds ++ gs) = true) :
    Calls Try.prog 4 args W fun e W' => ∃ v, e = .returned v ∧ Rows.frameAllSpec.post enc Try.prog Try.f4 false true false false W args v W' := by
  have hW' := hW
  obtain ⟨p, q, hA0, hV, hbef, _, _⟩ := hW
  have hA : DataW.TrodAll enc Try.prog W 0 (fun _ => true) true Try.f4.params.toList args.toList ds p := hA0
  have hA1 := hA
  rw [Try.params4] at hA hval hsz
  obtain ⟨v0, vs0, d0, ds0, p0, q0, hargs, rfl, rfl, h0, r0⟩ := trodAll_cons hA
  obtain ⟨v1, vs1, d1, ds1, p1, q1, rfl, rfl, rfl, h1, r1⟩ := trodAll_cons r0
  obtain ⟨rfl, rfl, rfl⟩ := trodAll_nil r1
  obtain rfl : args = #[v0, v1] := by cases args; simp_all
  obtain ⟨rfl, rfl⟩ := trodVars_none hV
  clear hA hargs
  obtain ⟨A0, c0, a0, rfl, n0, w0, l0, z0, o0⟩ := Frm.open_ls Try.underlying23 Try.underlying22 Try.underlying5 Frm.cells_bytes Facts.cells5 (hval 0 23 v0 rfl rfl) h0
  obtain ⟨a1, rfl, rfl, _, w1⟩ := open_int Try.underlying3 (hval 1 3 v1 rfl rfl) h1
  have hbulk : Frm.weight a0 ≤ 1048576 := by
    have h := Bulk.bound hk
    have e0 := Frm.ls_le (H := H) o0
    simp only [List.append_nil, Rows.uptoBulkAll] at h
    omega
  refine (walk W A0 c0 a0 n0 w0 l0 z0 a1 (wf_int w1) hbulk).mono fun e W' ⟨he, hb⟩ => ?_
  subst he
  exact ⟨_, rfl, law_post Facts.laid (by rfl) Try.underlying4 (by rw [Try.params4]; decide +kernel) hW' hA1 rfl hbef rfl rfl rfl hb⟩

set_option maxRecDepth 100000 in
theorem lifted (os : Os) (started : os.Started) (H : Type) (enc : TypeId × Value → H) (F : Stop.Interp) :
    ReturnsInHanded {} Try.checked os 4 .any ((Rows.OpenSpec.upto Rows.frameAllSpec).pre6 enc Try.prog Try.f4 Rows.frameAllUptoRow.domain false) (((Rows.OpenSpec.upto Rows.frameAllSpec).at F).post enc Try.prog Try.f4 false true false false) := by
  refine returnsInHanded_of_cond_sized (C := Try.checked) (s := Rows.OpenSpec.upto Rows.frameAllSpec) (k := Rows.uptoSmall) rfl Facts.own started (by kernel_rfl) Try.func4
    (OpenSpec.witness (enc := enc) (C := Try.checked) (s := Rows.OpenSpec.upto Rows.frameAllSpec) (k := Rows.uptoSmall) rfl false ⟨#[], #[.slice none 0 0, .int .i64 0], []⟩ 8 (by kernel_rfl) (by kernel_rfl) (by kernel_rfl)
      (x := ([.nil, .lit (.int .i64 0)], [], [])) (by kernel_rfl) rfl (by kernel_rfl)) ?_
  intro W base args ds gs before hval hW _ hk hsz _
  exact contract H enc W base args ds gs before hval hW hsz hk

theorem holds : Rows.FrameAllUptoSaid :=
  OpenClaim.holds_of_cond 4 Try.f4 rfl rfl rfl rfl rfl rfl rfl ⟨rfl, rfl, rfl, rfl, rfl⟩ rfl rfl rfl rfl rfl (by kernel_rfl) Try.func4 (by kernel_rfl)
    (of_decide_eq_true (by kernel_rfl)) (by unfold Func.isWrapper; first | (rw [if_pos (by decide +kernel)]; kernel_rfl) | (rw [if_neg (by decide +kernel)]; exact ⟨rfl, rfl⟩))
    (fun os started H enc _ F => lifted os started H enc F)
-- ROW END
end FrameAll
end Go.Proofs.Ytgiojcjnljmaiaa
