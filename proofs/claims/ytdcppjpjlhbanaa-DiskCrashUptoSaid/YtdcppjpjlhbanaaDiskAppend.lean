/-
  disk: Append (layer 7).
-/
import Derived.Test.YtdcppjpjlhbanaaDiskChain
import Derived.Deep.RegionLaw
import Derived.Deep.DeepCutAuto
import Derived.Deep.CutBlock
namespace Go.Proofs.Ytdcppjpjlhbanaa
namespace Disk
open Go.RowKit Blk Go.Maps
attribute [local go_sem ↓] Go.wp_at_zero Go.wp_at_succ
/-- An append whose run is known, as one step of a region that draws. -/
theorem step_append_of {P : Program} {ops : Array Oper} {o : Oper} {a : Act} {w : World} {K : Act → World → Prop} {Q : Exit → Act → World → Prop} {E : Prop} (hg : o.guard = none) (s x : Operand) (t : TypeId) (hop : o.op = Op.call { callee := Callee.builtin Builtin.append, args := #[s, x], argTypes := #[t, t] })
    (vs vx v' : Value) (w' : World) (hs : a.eval s = vs) (hx : a.eval x = vx) (hrun : (Builtin.append_ #[t, t] o.type #[vs, vx]).run P w = .ok v' w') (hK : K (a.put o.dst v') w') :
    if Region.wanted o (yielded ops a.tmps) = true then Oper.wp P o a w K Q else E := by
  have hw : Region.wanted o (yielded ops a.tmps) = true := by simp [Region.wanted, hg]
  rw [if_pos hw]
  unfold Oper.wp
  simp [execOp, hop, resolve, invoke, builtin, hs, hx, hrun, Result.andThen]
  exact hK
section
variable {F : Nat → Prop} {own : Nat → Nat} {w : World} {db N : Nat} {room : Int} {es : Es} {r : List Un}
/-- The file under a name, or an empty one of a new owner. -/
def oldF (es : Es) (N : Nat) (s : Nm) : Fl := (find es s).getD ⟨[], none, 0, N⟩
theorem oldF_v (es : Es) (N : Nat) (s : Nm) : ((find es s).map Fl.v).getD (.slice none 0 0) = (oldF es N s).v := by
  unfold oldF
  cases find es s <;> rfl
theorem oldF_dat (es : Es) (N : Nat) (s : Nm) : (oldF es N s).d = dat (fsE es) s := by
  unfold oldF dat
  rw [find_map]
  cases find es s <;> rfl
theorem oldF_ok {F : Nat → Prop} {own : Nat → Nat} {w : World} (h : ∀ x ∈ es, ROK F own w x.2) (N : Nat) (s : Nm) : ROK F own w (oldF es N s) := by
  unfold oldF
  rcases hf : find es s with _ | x
  · exact ⟨Nat.le_refl _, by simp, by simp, .inl ⟨rfl, rfl, rfl⟩⟩
  · exact h _ (find_some hf)
/-- What an append leaves. -/
def AppP (F : Nat → Prop) (N : Nat) (w : World) (db : Nat) (room : Int) (es : Es) (r : List Un) (s : Nm) (b : List Int) (e : Ending) (w' : World) : Prop :=
  e = .returned (.int .i64 0) ∧ ∃ F' own' x' e', Hid (DK F' own' (N + 1) w' db room (wit es s x') (e' :: r) ∧ (Chg F w w' ∧ ∀ j, F' j → F j ∨ w.heap.size ≤ j) ∧ x'.d = dat (fsE es) s ++ b ∧ undoX e' 0 (xsE (wit es s x')) = xsE es ∧
    ∀ t, undoF e' t (fsE (wit es s x')) = if 0 < tor t b.length then wit (fsE es) s (dat (fsE es) s ++ b.take (tor t b.length)) else fsE es)
set_option maxRecDepth 100000 in
set_option maxHeartbeats 4000000 in
theorem append_ok (h : DK F own N w db room es r) (hN : N < 10000000000000) (s : Nm) (hs : 1 ≤ s.size ∧ s.size ≤ 16) (b : List Int) (kb : Nat) (hkb : b.length = kb) (Ab : Option Addr) (cb : Nat) (hb : Ns .u8 w w.heap.size Ab b) (hb8 : ∀ z ∈ b, 0 ≤ z ∧ z ≤ 255) (hfit : (kb : Int) ≤ room - used (fsE es)) (hbl : kb ≤ 1073741824) :
    Calls Try.prog 21 #[hd db, .string s, .slice Ab kb cb] w (AppP F N w db room es r s b) := by
  obtain ⟨mb, A, n, c, h1, ⟨h2, h3⟩, ⟨h4, h5⟩, h6, h7, h8, h9, h10, h11⟩ := h
  obtain ⟨x0, hx0⟩ : ∃ x, oldF es N s = x := ⟨_, rfl⟩
  have hxk := oldF_ok h4 N s
  have hxd := oldF_dat es N s
  rw [hx0] at hxk hxd
  obtain ⟨k, hk⟩ : ∃ k, x0.d.length = k := ⟨_, rfl⟩
  obtain ⟨th, hth⟩ : ∃ b, (find es s).isSome = b := ⟨_, rfl⟩
  obtain ⟨bd, hbd⟩ : ∃ b, w.heap.size = b := ⟨_, rfl⟩
  obtain ⟨U1, hU1⟩ : ∃ V, w.alloc (.cells #[hd db] 24) = V := ⟨_, rfl⟩
  have b1' : Below w.heap.size w U1 := by rw [← hU1]; exact (Below.refl _ w).alloc (Nat.le_refl _) _
  have D1 : Bn bd 24 [hd db] U1 := by rw [← hU1, ← hbd]; exact heap_alloc_new w _
  obtain ⟨bn, hbn⟩ : ∃ b, U1.heap.size = b := ⟨_, rfl⟩
  obtain ⟨U, hU⟩ : ∃ V, U1.alloc (.cells #[.string s] 9) = V := ⟨_, rfl⟩
  have b2' : Below U1.heap.size U1 U := by rw [← hU]; exact (Below.refl _ U1).alloc (Nat.le_refl _) _
  have N1 : Bn bn 9 [.string s] U := by rw [← hU, ← hbn]; exact heap_alloc_new U1 _
  have D2 := D1.same (b2'.block bd D1.lt)
  have bU : Below w.heap.size w U := b1'.trans (b2'.mono b1'.size)
  have H1 := right_any s U
  rw [decide_eq_true hs] at H1
  have H1 := Lib.hid H1
  have c1 := (D2.cell 0).trans rfl
  have c2 := (N1.cell 0).trans rfl
  have hC := h1.below bU
  have k0 := (hC.1.cell 0).trans rfl
  have k1 := (hC.1.cell 1).trans rfl
  have k2 := (hC.1.cell 2).trans rfl
  obtain ⟨u, hu⟩ : ∃ u, used (fsE es) = u := ⟨_, rfl⟩
  have hku : k ≤ u := by rw [← hk, hxd, ← hu]; exact dat_le (h1.srt.map Fl.d) s
  rw [hu] at k1 hfit
  have hroom := h7.2.2.1
  have hur := h7.2.1.head
  rw [hu] at hur
  have e1 : IntKind.i64.wrap (room - (u : Int)) = room - (u : Int) := Go.IntWalk.i64_in _ (by omega)
  have d1 : decide (room - (u : Int) < (kb : Int)) = false := decide_eq_false (by omega)
  have hlook : ∀ V, Below U.heap.size U V → (Instr.lookup 57 (.map (some mb)) (.string s) true).run Try.prog V = .ok (.tuple #[.slice x0.A k x0.c, .bool th]) V := fun V hV => by
    have q := MI.look_ok (w := V) (hC.below hV).2 s (ok_of hs.2)
    rw [find_map] at q
    have q2 : ((find es s).map Fl.v).isSome = th := by rw [Option.isSome_map]; exact hth
    have q3 : ((find es s).map Fl.v).getD (.slice none 0 0) = .slice x0.A k x0.c := by rw [oldF_v es N s, hx0, ← hk]; rfl
    rw [q2, q3] at q
    exact q
  have hall : ∀ V, Below U.heap.size U V → V.cell? ⟨bd, 0, none⟩ = some (hd db) ∧ V.cell? ⟨bn, 0, none⟩ = some (.string s) ∧ V.cell? ⟨db, 2, none⟩ = some (.map (some mb)) ∧ (Instr.lookup 57 (.map (some mb)) (.string s) true).run Try.prog V = .ok (.tuple #[.slice x0.A k x0.c, .bool th]) V := fun V hV =>
    ⟨(hV.cell D2.lt).trans c1, (hV.cell N1.lt).trans c2, (hV.cell hC.1.lt).trans k2, hlook V hV⟩
  obtain ⟨xa0, xb0, xc0, xd0⟩ := hall (U).drew.drew (show Below U.heap.size U (U).drew.drew from (((Below.refl U.heap.size U)).drew).drew)
  obtain ⟨xa1, xb1, xc1, xd1⟩ := hall (U.alloc (.cells #[.slice none 0 0] 29)).drew.drew (show Below U.heap.size U (U.alloc (.cells #[.slice none 0 0] 29)).drew.drew from (((((Below.refl U.heap.size U)).alloc (by simp) (.cells #[.slice none 0 0] 29))).drew).drew)
  obtain ⟨xa2, xb2, xc2, xd2⟩ := hall (U.alloc (.cells #[.bool false] 4)).drew.drew (show Below U.heap.size U (U.alloc (.cells #[.bool false] 4)).drew.drew from (((((Below.refl U.heap.size U)).alloc (by simp) (.cells #[.bool false] 4))).drew).drew)
  obtain ⟨xa3, xb3, xc3, xd3⟩ := hall ((U.alloc (.cells #[.slice none 0 0] 29)).alloc (.cells #[.bool false] 4)).drew.drew (show Below U.heap.size U ((U.alloc (.cells #[.slice none 0 0] 29)).alloc (.cells #[.bool false] 4)).drew.drew from (((((((Below.refl U.heap.size U)).alloc (by simp) (.cells #[.slice none 0 0] 29))).alloc (by simp) (.cells #[.bool false] 4))).drew).drew)
  obtain ⟨xa4, xb4, xc4, xd4⟩ := hall ((U.alloc (.cells #[.bool false] 4)).alloc (.cells #[.slice none 0 0] 29)).drew.drew (show Below U.heap.size U ((U.alloc (.cells #[.bool false] 4)).alloc (.cells #[.slice none 0 0] 29)).drew.drew from (((((((Below.refl U.heap.size U)).alloc (by simp) (.cells #[.bool false] 4))).alloc (by simp) (.cells #[.slice none 0 0] 29))).drew).drew)
  have HZ := Lib.hid (And.intro h1 (And.intro (And.intro h2 h3) (And.intro (And.intro h4 h5) (And.intro h6 (And.intro h7 (And.intro h8 (And.intro h9 (And.intro h10 h11))))))))
  have HU := Lib.hid (And.intro bU (And.intro D2 (And.intro N1 (And.intro hC (And.intro hu (And.intro hk (And.intro hx0 (And.intro hxk (And.intro hxd (And.intro hth (And.intro hb (And.intro hb8 (And.intro hkb (And.intro hku (And.intro hfit (And.intro hur hroom))))))))))))))))
  have HB2 : Hid (w.heap.size ≤ bn ∧ U.heap.size = bn + 1) := Lib.hid ⟨by rw [← hbn]; exact b1'.size, by rw [← hU]; simp [hbn]⟩
  clear h1 h2 h3 h4 h5 h6 h7 h8 h9 h10 h11 bU D1 D2 N1 hC hu hk hx0 hxk hxd hth hb hb8 hkb b1' b2' hall hlook hku hfit hur hroom
  go_enter Try.func21, Try.ntmps21
  go_wp2_with fail
  refine H1.out.mono ?_
  rintro e w2 ⟨rfl, rfl⟩
  go_wp2_with fail
  go_region
  go_wp2_with fail
  go_cut [7, 8] (fun v7 v8 V => ∃ bw bt, v7 = pt bw ∧ v8 = pt bt ∧ Hid (Bn bw 29 [.slice x0.A k x0.c] V ∧ Bn bt 4 [.bool th] V ∧ Below w2.heap.size w2 V ∧ w2.heap.size ≤ bw ∧ w2.heap.size ≤ bt))
  case first =>
    go_region
    all_goals
      go_wp2_with fail
      go_meet
      first
        | exact ⟨_, _, rfl, rfl, Lib.hid (by have q := two_new w2 29 4 (.slice x0.A k x0.c) (.bool th); exact ⟨q.1, q.2.1, (q.2.2.drew).drew, by simp, by simp⟩)⟩
        | exact ⟨_, _, rfl, rfl, Lib.hid (by have q := two_new w2 4 29 (.bool th) (.slice x0.A k x0.c); exact ⟨q.2.1, q.1, (q.2.2.drew).drew, by simp, by simp⟩)⟩
  case rest =>
    obtain ⟨bw, bt, rfl, rfl, hbx⟩ := hcut
    clear xa0 xa1 xa2 xa3 xa4 xb0 xb1 xb2 xb3 xb4 xc0 xc1 xc2 xc3 xc4 xd0 xd1 xd2 xd3 xd4 c1 c2 k0 k1 k2
    obtain ⟨bs, hbs⟩ : ∃ b, wc.heap.size = b := ⟨_, rfl⟩
    obtain ⟨X, hX⟩ : ∃ V, wc.alloc (.cells #[.int .i64 kb] 3) = V := ⟨_, rfl⟩
    have bX : Below wc.heap.size wc X := by rw [← hX]; exact (Below.refl _ wc).alloc (Nat.le_refl _) _
    have SX : Bn bs 3 [.int .i64 kb] X := by rw [← hX, ← hbs]; exact heap_alloc_new wc _
    have b2X : Below w2.heap.size w2 X := hbx.out.2.2.1.trans (bX.mono hbx.out.2.2.1.size)
    have DX := HU.out.2.1.same (b2X.block bd HU.out.2.1.lt)
    have NX := HU.out.2.2.1.same (b2X.block bn HU.out.2.2.1.lt)
    have WX := hbx.out.1.same (bX.block bw hbx.out.1.lt)
    have TX := hbx.out.2.1.same (bX.block bt hbx.out.2.1.lt)
    have CX := HU.out.2.2.2.1.below b2X
    have bwX : Below w.heap.size w X := HU.out.1.trans (b2X.mono HU.out.1.size)
    have xk := HU.out.2.2.2.2.2.2.2.1.keep (w' := X.drew) (fun j hj => bwX.block j (HZ.out.2.2.2.2.2.2.2.2 j hj))
    obtain ⟨A', c', W1, hrun, hA⟩ := app_run xk b Ab cb (((HU.out.2.2.2.2.2.2.2.2.2.2.1.below bwX).more bwX.size : Ns .u8 X X.heap.size Ab b)) HU.out.2.2.2.2.2.2.2.2.2.2.2.1 (by have := HU.out; omega) (fun j hj => Nat.lt_of_lt_of_le (HZ.out.2.2.2.2.2.2.2.2 j hj) bwX.size) 29
    rw [HU.out.2.2.2.2.2.1, HU.out.2.2.2.2.2.2.2.2.2.2.2.2.1] at hrun
    have hC1 := CX
    have hgood := HZ.out.2.2.2.2.1.1.good
    have hlenN : es.length ≤ N := by have : (es.map fun x => (x.1, Fl.x x.2)).length ≤ N := hgood.2.2.2.2.2; rwa [List.length_map] at this
    have keepW : ∀ {B : Nat} {t : TypeId} {cs : List Value}, Bn B t cs X → t ≠ 5 → Bn B t cs W1 := fun {B t cs} hB ht => hB.same (hA.1.block B hB.lt (rok_ne (w := X.drew) xk hB ht))
    have DW := keepW DX (by decide)
    have NW := keepW NX (by decide)
    have WW := keepW WX (by decide)
    have TW := keepW TX (by decide)
    have SW := keepW SX (by decide)
    have CW : Cor W1 db mb room A n c es := ⟨keepW CX.1 (by decide), CX.2.same (hA.1.block mb CX.2.lt (rok_map (w := X.drew) xk CX.2))⟩
    obtain ⟨x', hx'⟩ : ∃ x, (⟨x0.d ++ b, A', c', x0.i⟩ : Fl) = x := ⟨_, rfl⟩
    have hxl : x'.d.length = k + kb := by rw [← hx']; simp only [List.length_append]; have := HU.out.2.2.2.2.2.1; have := HU.out.2.2.2.2.2.2.2.2.2.2.2.2.1; omega
    have hHS := set_any CW s (ok_of hs.2) x' (k + kb) hxl (by have := HU.out.2.2.2.2.1; have := HU.out.2.2.2.2.2.2.2.2.2.2.2.2.2.2.2.1; have := HU.out.2.2.2.2.2.2.2.2.2.2.2.2.2.2.2.2; omega) (by have := HU.out.2.2.2.2.2.2.2.2.2.2.2.2.2.1; have := HU.out.2.2.2.2.2.2.2.2.2.2.2.2.2.2.2.1; have := HU.out.2.2.2.2.2.2.2.2.2.2.2.2.2.2.2.2; omega) (by omega)
    have e6 : x'.A = A' ∧ x'.c = c' := by rw [← hx']; exact ⟨rfl, rfl⟩
    rw [e6.1, e6.2] at hHS
    have HSet := Lib.hid hHS
    have hcS : ∀ (a : Array Value) (w : World), (callFunc 38 a).run Try.prog w = .ok (.enter 38 a) w := fun a w => by simp [go_sem]
    have q1 : X.drew.cell? ⟨bd, 0, none⟩ = some (hd db) := (DX.cell 0).trans rfl
    have q2 : X.drew.cell? ⟨bn, 0, none⟩ = some (.string s) := (NX.cell 0).trans rfl
    have q3 : X.drew.cell? ⟨bw, 0, none⟩ = some (.slice x0.A k x0.c) := (WX.cell 0).trans rfl
    have q4 := (DW.cell 0).trans rfl
    have q5 := (NW.cell 0).trans rfl
    have HW := Lib.hid (And.intro hA (And.intro DW (And.intro NW (And.intro WW (And.intro TW (And.intro SW (And.intro CW (And.intro hx' (And.intro hgood (And.intro hlenN (And.intro bwX (And.intro hxl CX))))))))))))
    have HB3 : Hid (w2.heap.size ≤ bs) := Lib.hid (by rw [← hbs]; exact hbx.out.2.2.1.size)
    have HW2 := Lib.hid (And.intro xk (And.intro hbx.out.2.2.2.1 (And.intro hbx.out.2.2.2.2 b2X)))
    clear hA DW NW WW TW SW CW hx' hgood hlenN bwX hxl CX xk b2X hbx keepW hHS e6 hC1 DX NX WX TX SX bX
    go_wp2_with fail
    go_cut [41] (fun _ V => Hid (Cor V db mb room A n c (wit es s x') ∧ Chg (Two db mb) W1 V))
    case first =>
      go_region_law (first
        | (refine step_append_of (by rfl) _ _ _ (by rfl) (.slice x0.A k x0.c) (.slice Ab kb cb) (.slice A' (k + kb) c') W1 (by rfl) (by rfl) hrun ?_)
        | (refine step_call (by rfl) 38 _ _ (by rfl) (hcS _ _) #[hd db, .string s, .slice A' (k + kb) c'] (by simp [Act.eval]) HSet.out (fun e w' h => ⟨_, h.1⟩) ?_; rintro v3 w3 ⟨hv3, h3⟩))
      all_goals
        go_wp2_with fail
        go_meet
        exact h3
    case rest =>
      have h3 := hcut
      clear hcut q1 q2 q3 q4 q5 hrun HSet hcS
      obtain ⟨i0, hi0, hz0, hz1, hz2⟩ := info_parts info_undo
      have C3 := h3.out.1
      have T3 := h3.out.2
      have CW := HW.out.2.2.2.2.2.2.1
      have D3 := bn_two CW HW.out.2.1 (by decide) T3
      have N3 := bn_two CW HW.out.2.2.1 (by decide) T3
      have W3 := bn_two CW HW.out.2.2.2.1 (by decide) T3
      have B3 := bn_two CW HW.out.2.2.2.2.1 (by decide) T3
      have S3 := bn_two CW HW.out.2.2.2.2.2.1 (by decide) T3
      have hA := HW.out.1
      have xk := HW2.out.1
      have bwX := HW.out.2.2.2.2.2.2.2.2.2.2.1
      have hrX : X.ownsRow 0 76 1 (.slice A n c) n (r.reverse.map Un.v) := own_keep HZ.out.2.1.2 fun g hg => bwX.block g (HZ.out.2.1.2.lt g hg).2
      have hr1 : W1.ownsRow 0 76 1 (.slice A n c) n (r.reverse.map Un.v) := own_keep hrX fun g hg => hA.1.block g (hrX.lt g hg).2 (rok_row (w := X.drew) xk hrX (by decide) hg)
      have hr3 : wc.ownsRow 0 76 1 (.slice A n c) n (r.reverse.map Un.v) := own_keep hr1 fun g hg => T3.block g (hr1.lt g hg).2 fun q => by
        rcases q with rfl | rfl
        · exact own_ne hr1 CW.1 (by decide) hg
        · obtain ⟨cur2, hc2⟩ := own_block hr1 hg
          exact CW.2.ne hc2 rfl
      obtain ⟨CL, hCL⟩ : ∃ v, Value.func (Fn.func 39) #[] #[pt bs, pt bd, pt bn, pt bw, pt bt] = v := ⟨_, rfl⟩
      have hCLv : (Un.app bs bd bn bw bt s k kb th x0.A x0.c).v = CL := hCL
      have hCL1 : CL.oneCell' = true := by rw [← hCL]; rfl
      have bV : Below wc.heap.size wc (wc.alloc (.cells #[CL] 76)) := (Below.refl _ wc).alloc (Nat.le_refl _) _
      have hrV := own_below hr3 bV (Nat.le_refl _)
      have CV := C3.below bV
      have DV := D3.same (bV.block bd D3.lt)
      have hszW : X.heap.size ≤ W1.heap.size := hA.1.size
      have hsz3 : W1.heap.size ≤ wc.heap.size := T3.size
      -- what is told behind the last store
      have hfin : ∀ (g7 cap7 : Nat) (w7 : World), w7.ownsRow 0 76 1 (.slice (some ⟨g7, 0, none⟩) (n + 1) cap7) (n + 1) (r.reverse.map Un.v ++ [CL]) → (wc.alloc (.cells #[CL] 76)).grownBy w7 (Value.slice A n c).ownBlock → ((Value.slice A n c).ownBlock = some g7 ∨ g7 = wc.heap.size + 1) → g7 < w7.heap.size →
          AppP F N w db room es r s b (.returned (.int .i64 0)) (w7.setCell ⟨db, 3, none⟩ (.slice (some ⟨g7, 0, none⟩) (n + 1) cap7)) := fun g7 cap7 w7 o7 gr7 at7 hl7 => by
        have hx'e := HW.out.2.2.2.2.2.2.2.1
        have hgood := HW.out.2.2.2.2.2.2.2.2.1
        have hx0 := HU.out.2.2.2.2.2.2.1
        have hth := HU.out.2.2.2.2.2.2.2.2.2.1
        have hkk := HU.out.2.2.2.2.2.1
        have hkb := HU.out.2.2.2.2.2.2.2.2.2.2.2.2.1
        have hxd := HU.out.2.2.2.2.2.2.2.2.1
        -- a file's bytes, here
        have lift : ∀ y, ROK (fun j => F j ∨ (X.drew.heap.size ≤ j ∧ j < W1.heap.size)) (ownTo own X.drew.heap.size x0.i) W1 y → ROK (fun j => F j ∨ (w.heap.size ≤ j ∧ j < wc.heap.size)) (ownTo own X.drew.heap.size x0.i) wc y := fun y hy => by
          refine hy.grow (fun j hj => hj.imp id fun q => ⟨Nat.le_trans bwX.size q.1, Nat.lt_of_lt_of_le q.2 hsz3⟩) (fun _ _ => rfl) fun g hg => T3.block g ?_ fun q => ?_
          · obtain ⟨_, _, _, q⟩ := hy
            rcases q with ⟨q, _⟩ | ⟨g2, cur, q1, _, _, q2, _⟩
            · rw [q] at hg; cases hg
            · rw [q1] at hg
              injection hg with hg
              injection hg with hg
              subst hg
              exact (Array.getElem?_eq_some_iff.1 q2).1
          · rcases q with rfl | rfl
            · exact rok_ne hy CW.1 (by decide) hg
            · exact rok_map hy CW.2 hg
        have atX : ∀ y, ROK F own w y → ROK F own X.drew y := fun y hy => hy.keep (w' := X.drew) fun j hj => bwX.block j (HZ.out.2.2.2.2.2.2.2.2 j hj)
        have fx0 : th = true → find es s = some x0 := fun ht => by
          rw [ht] at hth
          obtain ⟨v, hv⟩ := Option.isSome_iff_exists.1 hth
          rw [hv, ← hx0]
          unfold oldF
          rw [hv]
          rfl
        have fn0 : th = false → find es s = none ∧ x0 = ⟨[], none, 0, N⟩ := fun ht => by
          rw [ht] at hth
          have hv : find es s = none := by
            cases h0 : find es s with
            | none => rfl
            | some v => rw [h0] at hth; cases hth
          refine ⟨hv, ?_⟩
          rw [← hx0]
          unfold oldF
          rw [hv]
          rfl
        have capR : ∀ e' ∈ r, ∀ y ∈ e'.caps, y.A = x0.A → y.A ≠ none → x0.c ≠ x0.d.length → y.d.length ≤ x0.d.length := fun e' he' y hy q1 q2 q3 => by
          rcases Bool.eq_false_or_eq_true th with ht | ht
          · exact HZ.out.2.2.2.1 _ (find_some (fx0 ht)) q3 e' he' y hy q1 q2
          · rw [(fn0 ht).2] at q1
            exact absurd q1 q2
        have othR : ∀ x ∈ es, x.1 ≠ s → x.2.A = x0.A → x.2.A ≠ none → False := fun x hx hne q1 q2 => by
          rcases Bool.eq_false_or_eq_true th with ht | ht
          · have hm := find_some (fx0 ht)
            have hi := rok_own (HZ.out.2.2.1.1 x hx) (HZ.out.2.2.1.1 _ hm) q1 q2
            have := nodup_id hgood.2.1 (x := (x.1, x.2.x)) (y := (s, x0.x)) (List.mem_map.2 ⟨x, hx, rfl⟩) (List.mem_map.2 ⟨_, hm, rfl⟩) hi
            exact hne (congrArg Prod.fst this)
          · rw [(fn0 ht).2] at q1
            exact q2 q1
        have hx'c : x' = ⟨x0.d ++ b, A', c', x0.i⟩ := hx'e.symm
        have hres := push_done (N' := N + 1) (e := .app bs bd bn bw bt s k kb th x0.A x0.c) (F3 := fun j => F j ∨ (w.heap.size ≤ j ∧ j < wc.heap.size)) (own3 := ownTo own X.drew.heap.size x0.i) C3 ⟨HZ.out.2.1.1, hr3⟩ ?_ ?_ ?_ ?_ ?_ bV (by rw [hCLv]; exact o7) gr7 (at7.imp id fun q => by omega) hl7
        · refine ⟨rfl, _, _, x', _, Lib.hid ⟨hres.1, ⟨?_, fun j hj => ?_⟩, by rw [hx'c, ← hxd], ?_, fun t => ?_⟩⟩
          · have c1 : Chg F w X.drew := Chg.of_below (bwX.drew)
            have c2 : Chg F X.drew W1 := hA.1.mono fun j hj => by
              obtain ⟨_, _, _, q⟩ := xk
              rcases q with ⟨q, _⟩ | ⟨g2, cur, q1, q2, _⟩
              · rw [q] at hj; cases hj
              · rw [q1] at hj
                injection hj with hj
                injection hj with hj
                subst hj
                exact q2
            have c3 : Chg F W1 wc := T3.mono fun j hj => by
              rcases hj with rfl | rfl
              · exact HZ.out.2.2.2.2.2.1
              · exact HZ.out.2.2.2.2.2.2.1
            exact ((c1.trans c2 fun _ => .inl).trans c3 fun _ => .inl).trans hres.2 fun j hj => hj.imp id fun q => q.1
          · rcases hj with hj | hj
            · exact hj.imp id fun q => q.1
            · exact .inr (Nat.le_trans bwX.size (by omega))
          · rw [show xsE (wit es s x') = wit (xsE es) s (x0.d ++ b, x0.i) by rw [hx'c]; exact map_wit _ _ _ _, ← hkk, ← hkb]
            refine undo_app_X hgood.1 (fun ht => ?_) (fun ht => ?_) bs bd bn bw bt x0.A x0.c
            · rw [show xsE es = mapV Fl.x es from rfl, find_map, fx0 ht]; rfl
            · rw [show xsE es = mapV Fl.x es from rfl, find_map, (fn0 ht).1, (fn0 ht).2]; exact ⟨rfl, rfl⟩
          · rw [show fsE (wit es s x') = wit (fsE es) s (x0.d ++ b) by rw [hx'c]; exact map_wit _ _ _ _, ← hkk, ← hkb, hxd]
            exact undo_app_F (HZ.out.1.srt.map Fl.d) (by rw [find_map, Option.isSome_map]; exact hth) t bs bd bn bw bt x0.A x0.c
        · intro x hx
          rcases mem_wit.1 hx with rfl | ⟨hx, hne⟩
          · rw [hx'c]
            exact lift _ hA.2.2.1
          · exact lift _ (hA.2.2.2 _ (atX _ (HZ.out.2.2.1.1 x hx)) fun q1 q2 _ => (othR x hx hne q1 q2).elim).1
        · intro e' he'
          rcases List.mem_cons.1 he' with rfl | he'
          · refine ⟨⟨S3, .inr ⟨?_, S3.lt⟩⟩, ⟨D3, .inr ⟨?_, D3.lt⟩⟩, ⟨N3, .inr ⟨?_, N3.lt⟩⟩, ⟨W3, .inr ⟨?_, W3.lt⟩⟩, ⟨B3, .inr ⟨?_, B3.lt⟩⟩, hs.2, ?_, by omega⟩
            · have := HU.out.1.size; have := HB3.out; omega
            · rw [← hbd]; exact Nat.le_refl _
            · have := HB2.out; omega
            · have := HU.out.1.size; have := HW2.out.2.1; omega
            · have := HU.out.1.size; have := HW2.out.2.2.1; omega
            · have := HU.out.2.2.2.2.2.2.2.2.2.2.2.2.2.1; have := HU.out.2.2.2.2.2.2.2.2.2.2.2.2.2.2.2.1; have := HU.out.2.2.2.2.2.2.2.2.2.2.2.2.2.2.2.2; omega
          · refine Un.ok_lift (F := F) (own := own) (w := w) (db := db) (HZ.out.2.2.1.2 e' he') (fun {b0 t0 v0} hb0 n1 n2 n3 => ?_) fun y hy hyk => lift _ (hA.2.2.2 _ (atX _ hyk) fun q1 q2 q3 => capR e' he' y hy q1 q2 q3).1
            have g1 := hb0.1.same (bwX.block b0 hb0.1.lt)
            have g2 : Bn b0 t0 [v0] W1 := g1.same (hA.1.block b0 g1.lt (rok_ne (w := X.drew) xk g1 n2))
            exact ⟨bn_two CW g2 n1 T3, .inl hb0.2⟩
        · intro x hx hc e' he' y hy q1 q2
          rcases List.mem_cons.1 he' with rfl | he'
          · simp [Un.caps] at hy
          · have hyk := rok_caps (HZ.out.2.2.1.2 e' he') hy
            rcases mem_wit.1 hx with rfl | ⟨hx, hne⟩
            · rw [hx'c] at hc q1 ⊢
              exact (hA.2.2.2 _ (atX _ hyk) fun q1 q2 q3 => capR e' he' y hy q1 q2 q3).2 q1 q2 hc
            · exact HZ.out.2.2.2.1 x hx hc e' he' y hy q1 q2
        · have hu' : used (fsE (wit es s x')) = used (fsE es) + kb := by
            have hw := used_wit (HZ.out.1.srt.map Fl.d) s (x0.d ++ b)
            rw [show fsE (wit es s x') = wit (fsE es) s (x0.d ++ b) by rw [hx'c]; exact map_wit _ _ _ _]
            have e1 : ((find (mapV Fl.d es) s).getD []).length = k := by rw [← hkk, hxd]; rfl
            rw [e1, List.length_append, hkk, hkb] at hw
            have e2 : used (wit (fsE es) s (x0.d ++ b)) + k = used (fsE es) + (k + kb) := hw
            omega
          have huu := HU.out.2.2.2.2.1
          have hft := HU.out.2.2.2.2.2.2.2.2.2.2.2.2.2.2.1
          have hrm := HU.out.2.2.2.2.2.2.2.2.2.2.2.2.2.2.2.2
          have hX' : xsE (wit es s x') = wit (xsE es) s (x0.d ++ b, x0.i) := by rw [hx'c]; exact map_wit _ _ _ _
          have hundo : undoX (.app bs bd bn bw bt s k kb th x0.A x0.c) 0 (xsE (wit es s x')) = xsE es := by
            rw [hX', ← hkk, ← hkb]
            refine undo_app_X hgood.1 (fun ht => ?_) (fun ht => ?_) bs bd bn bw bt x0.A x0.c
            · rw [show xsE es = mapV Fl.x es from rfl, find_map, fx0 ht]; rfl
            · rw [show xsE es = mapV Fl.x es from rfl, find_map, (fn0 ht).1, (fn0 ht).2]; exact ⟨rfl, rfl⟩
          refine ⟨⟨⟨?_, ?_, ?_, ?_, ?_, ?_⟩, ?_, ?_⟩, ⟨by omega, by have := undo_xf (.app bs bd bn bw bt s k kb th x0.A x0.c) 0 (xsE (wit es s x')); rw [hundo, fs_xs, fs_xs] at this; rw [← this]; exact HZ.out.2.2.2.2.1.2.1⟩, hrm, ?_, by omega⟩
          · rw [hX']; exact hgood.1.wit _ _
          · rw [hX']
            refine nodup_wit hgood.2.1 fun x hx hne he => ?_
            rcases Bool.eq_false_or_eq_true th with ht | ht
            · have hm : (s, x0.x) ∈ xsE es := List.mem_map.2 ⟨_, find_some (fx0 ht), rfl⟩
              have := nodup_id hgood.2.1 hx hm he
              exact hne (congrArg Prod.fst this)
            · have := hgood.2.2.1 x hx
              rw [(fn0 ht).2] at he
              simp only at he
              omega
          · rw [hX']
            intro x hx
            rcases mem_wit.1 hx with rfl | ⟨hx, _⟩
            · simp only
              rcases Bool.eq_false_or_eq_true th with ht | ht
              · have hm : (s, x0.x) ∈ xsE es := List.mem_map.2 ⟨_, find_some (fx0 ht), rfl⟩
                have := hgood.2.2.1 _ hm
                have e : (s, x0.x).2.2 = x0.i := rfl
                omega
              · rw [(fn0 ht).2]
                simp only
                omega
            · have := hgood.2.2.1 x hx
              omega
          · rw [hX']
            intro x hx
            rcases mem_wit.1 hx with rfl | ⟨hx, _⟩
            · exact hs
            · exact hgood.2.2.2.1 x hx
          · rw [fs_xs]; omega
          · rw [hX', wit, len_ins]
            have h1 : (wout (xsE es) s).length ≤ (xsE es).length := List.length_filter_le _ _
            have := hgood.2.2.2.2.2
            omega
          · refine ⟨x0.d ++ b, x0.i, ?_, by rw [List.length_append, hkk, hkb]⟩
            rw [hX', find_wit, if_pos rfl]
          · rw [hundo]
            exact Chain.mono (by omega) HZ.out.2.2.2.2.1.1
          · have := HZ.out.2.2.2.2.1.2.2.2.1
            simp only [List.length_cons]
            omega
        · refine ⟨.inl HZ.out.2.2.2.2.2.1, .inl HZ.out.2.2.2.2.2.2.1, fun g hg => .inl (HZ.out.2.2.2.2.2.2.2.1 g hg), fun j hj => ?_⟩
          rcases hj with hj | hj
          · have := HZ.out.2.2.2.2.2.2.2.2 j hj
            have := bwX.size
            omega
          · exact hj.2
      have HFIN := Lib.hid hfin
      have q1 : wc.drew.cell? ⟨bd, 0, none⟩ = some (hd db) := (D3.cell 0).trans rfl
      have q2 : wc.drew.cell? ⟨db, 3, none⟩ = some (.slice A n c) := (C3.1.cell 3).trans rfl
      have q3 : (wc.alloc (.cells #[CL] 76)).drew.cell? ⟨bd, 0, none⟩ = some (hd db) := (DV.cell 0).trans rfl
      have q4 : (wc.alloc (.cells #[CL] 76)).drew.cell? ⟨db, 3, none⟩ = some (.slice A n c) := (CV.1.cell 3).trans rfl
      have HV := Lib.hid (And.intro hrV (And.intro CV DV))
      have hn13 : n ≤ 10000000000000 := by have := HZ.out.2.1.1; have := HZ.out.2.2.2.2.1.2.2.2.1; omega
      clear hfin hrX hr1 hr3 hrV CV DV C3 T3 CW D3 N3 W3 B3 S3 hA xk bwX hCLv bV hszW hsz3 HW HW2 HU HZ h3
      subst hCL
      go_wp2_with fail
      go_region_law (first
        | (refine step_append_lies _ (by rfl) _ _ _ (by rfl) 0 76 i0 _ 1 8 Try.underlying58 hi0 hz0 hz1 hz2 (by rfl) (by omega) (.slice A n c) n (r.reverse.map Un.v) (by rfl) HV.out.1 ⟨wc.heap.size, 0, none⟩ 1 1 [(Value.func (Fn.func 39) #[] #[pt bs, pt bd, pt bn, pt bw, pt bt])] (by rfl) (by rfl) (World.news_of_block (heap_alloc_new wc _)) (by simp [Value.oneCell']) (by omega) (by unfold maxLen; omega) (by omega) (Nat.zero_le _) (wc.heap.size + 1) (by simp) ?_; intro g7 cap7 w7 o7 gr6 at7 hl7; have gr7 : (wc.alloc (.cells #[(Value.func (Fn.func 39) #[] #[pt bs, pt bd, pt bn, pt bw, pt bt])] 76)).grownBy w7 (Value.slice A n c).ownBlock := ⟨gr6.os, gr6.tape, gr6.output, gr6.size, gr6.block⟩; clear gr6; have r0 := (HV.out.2.1.1.kept gr7 (fun q => own_ne HV.out.1 HV.out.2.1.1 (by decide) q.symm)).cell 3; have r1 := (HV.out.2.1.1.kept gr7 (fun q => own_ne HV.out.1 HV.out.2.1.1 (by decide) q.symm)).frozen 3; have r2 := (HV.out.2.2.kept gr7 (fun q => own_ne HV.out.1 HV.out.2.2 (by decide) q.symm)).cell 0; simp only [List.getElem?_cons_zero, List.getElem?_cons_succ] at r0 r2))
      all_goals
        have HE := Lib.hid (HFIN.out g7 cap7 w7 o7 gr7 at7 hl7)
        clear o7 gr7 at7 hl7
        go_wp2_with fail
        go_ret
        exact HE.out
end
end Disk
end Go.Proofs.Ytdcppjpjlhbanaa
