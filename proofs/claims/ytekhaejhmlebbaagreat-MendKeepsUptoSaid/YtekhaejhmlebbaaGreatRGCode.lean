/-
 Several texts of this family in one: CodeMsgPlain, CodeRight, CodeRefRight, CodeSame.
-/
import Derived.Test.YtekhaejhmlebbaaGreatRGPut
import Derived.Test.YtekhaejhmlebbaaGreatRGFill
import Derived.Test.YtekhaejhmlebbaaGreatRVersRight
import Derived.Test.YtekhaejhmlebbaaGreatRGRef
import Derived.Test.YtekhaejhmlebbaaGreatRGVect
import Derived.Test.YtekhaejhmlebbaaGreatRGSame
/-
 Plain words of layer 6: messages, as they are taken and written.
-/
namespace Go.Proofs.YtekhaejhmlebbaaGreat
namespace Code
open Num Span Vers

structure Par {α : Type} (zs : List Int) (P : Nat → Option (α × Nat)) (enc : α → List Int) (ok : α → Prop) (gets : α → Prop) : Prop where
 put : ∀ x p, gets x → ok x → Std zs p (enc x) → P p = some (x, p + (enc x).length)
 goes : ∀ x p q, p ≤ zs.length → P p = some (x, q) → p < q ∧ q ≤ zs.length
 got : ∀ x p q, p ≤ zs.length → P p = some (x, q) → gets x
 back : ∀ x p q, p ≤ zs.length → P p = some (x, q) → ok x → Std zs p (enc x) ∧ q = p + (enc x).length
/-! ### The parts -/
theorem listP_all {α : Type} {P : Nat → Option (α × Nat)} {n : Nat} {gets : α → Prop} (hP : ∀ x p q, p ≤ n → P p = some (x, q) → p < q ∧ q ≤ n) (hG : ∀ x p q, p ≤ n → P p = some (x, q) → gets x) : ∀ (k p q : Nat) (l : List α), p ≤ n → listP P k p = some (l, q) → ∀ x ∈ l, gets x
 | 0, p, q, l, hp, h => by
  simp only [listP, Option.some.injEq, Prod.mk.injEq] at h
  obtain ⟨rfl, rfl⟩ := h
  intro x hx
  cases hx
 | k + 1, p, q, l, hp, h => by
  rw [listP] at h
  split at h
  ·cases h
  ·rename_i x r hx
   obtain ⟨y, hy, he⟩ := Option.map_eq_some_iff.1 h
   simp only [Prod.mk.injEq] at he
   obtain ⟨rfl, rfl⟩ := he
   have h1 := hP x p r hp hx
   intro z hz
   rcases List.mem_cons.1 hz with rfl | hz
   ·exact hG _ _ _ hp hx
   ·exact listP_all hP hG k r y.2 y.1 (by omega) hy z hz
section
variable {zs : List Int}
theorem Par.list {α : Type} {P : Nat → Option (α × Nat)} {enc : α → List Int} {ok gets : α → Prop} (h : Par zs P enc ok gets) (hby : ∀ z ∈ zs, 0 ≤ z ∧ z ≤ 255) (hb : zs.length ≤ 4294967296) :
  Par zs (seqP P zs) (seqL enc) (fun l => ∀ x ∈ l, ok x) (fun l => l.length ≤ 9223372036854775807 ∧ ∀ x ∈ l, gets x) where
 put := fun l p hg hk hs => seqP_put (ok := fun x => gets x ∧ ok x) (fun x p hx hs => h.put x p hx.1 hx.2 hs) hg.1 (fun x hx => ⟨hg.2 x hx, hk x hx⟩) hs
 goes := fun l p q hp hx => by
  have := seqP_len hby (fun x p q hp h' => h.goes x p q hp h') hp hx
  omega
 got := fun l p q hp hx => by
  have h1 := seqP_len hby (fun x p q hp h' => h.goes x p q hp h') hp hx
  refine ⟨by omega, ?_⟩
  unfold seqP at hx
  split at hx
  ·cases hx
  ·rename_i n r hn
   obtain ⟨g1, g2, g3, g4⟩ := numP_ok hby hp hn
   have gl := std_le g1
   exact listP_all (fun x p q hp h' => h.goes x p q hp h') (fun x p q hp h' => h.got x p q hp h') _ _ _ _ (by omega) hx
 back := fun l p q hp hx hk => (seqP_ok hby (fun x p q hp h' => ⟨(h.goes x p q hp h').2, h.back x p q hp h'⟩) hp hx).2 hk
end

/-! ### Messages -/
def okA (a : Int × Int) : Prop := (1 ≤ a.1 ∧ a.1 ≤ 16) ∧ (0 ≤ a.2 ∧ a.2 ≤ 8)
end Code
end Go.Proofs.YtekhaejhmlebbaaGreat

/-
 What is right in layer 6: numbers, addresses, records, lists of them.
-/
namespace Go.Proofs.YtekhaejhmlebbaaGreat
namespace Code
open Go.RowKit Num Span Vers
attribute [local go_sem ↓] Go.wp_at_zero Go.wp_at_succ

theorem all_step {α : Type} {R : α → Prop} {l : List α} {k : Nat} (d : α) (hk : k < l.length) (h : ∀ x ∈ l.take k, R x) (hx : R (l.getD k d)) : ∀ x ∈ l.take (k + 1), R x := by
 intro x hm
 rw [List.take_succ_eq_append_getElem hk] at hm
 rcases List.mem_append.1 hm with hm | hm
 ·exact h x hm
 ·rw [List.mem_singleton.1 hm]
  simpa [List.getD_eq_getElem?_getD, hk] using hx
theorem all_bad {α : Type} {R : α → Prop} [DecidablePred R] {l : List α} {k : Nat} (d : α) (hk : k < l.length) (hx : ¬ R (l.getD k d)) : decide (∀ x ∈ l, R x) = false := by
 refine decide_eq_false fun h => hx (h _ ?_)
 rw [List.getD_eq_getElem?_getD, List.getElem?_eq_getElem hk]
 exact List.getElem_mem _
instance (a : Int × Int) : Decidable (okA a) := by unfold okA; infer_instance
set_option maxRecDepth 100000 in
theorem rrecord_any (A : Option Addr) (c m : Nat) (key : ByteArray) (l : List Vr) (hm : l.length = m) (hm2 : m ≤ 140737488355328) (hk2 : key.size ≤ 140737488355328) (w : World) (hv : Vs w 0 w.heap.size A l) :
  Calls Tryz.prog 71 #[.agg #[.string key, .slice A m c]] w (fun e w' => e = .returned (.bool (decide (okR (key, l)))) ∧ Below w.heap.size w w') := by
 obtain ⟨W, hW⟩ : ∃ W, w.alloc (.cells #[.string key, .slice A m c] 53) = W := ⟨_, rfl⟩
 have hB : Bn w.heap.size 53 [.string key, .slice A m c] W := by rw [← hW]; exact heap_alloc_new _ _
 have k0 := hB.cell 0
 have k1 := hB.cell 1
 simp only [List.getElem?_cons_zero, List.getElem?_cons_succ] at k0 k1
 have hbW : Below w.heap.size w W := by rw [← hW]; exact (Below.refl _ w).alloc (Nat.le_refl _) _
 have h1 := rightV_any A c m l hm W ((hv.below hbW).more hbW.size) hm2
 have hsz := hbW.size
 have HB := Lib.hid hbW
 clear hB hbW hv
 obtain ⟨R, hR⟩ : ∃ R, decide (okR (key, l)) = R := ⟨_, rfl⟩
 rw [hR]
 by_cases c0 : 1 ≤ key.size
 ·have d0 : (1 : Int) ≤ (key.size : Int) := by omega
  by_cases c1 : key.size ≤ 32
  ·have d1 : (key.size : Int) ≤ 32 := by omega
   have HR := Lib.hid (show R = decide (RightV l) by rw [← hR]; exact decide_eq_decide.2 ⟨fun h => h.2.2, fun h => ⟨c0, c1, h⟩⟩)
   have H1 := Lib.hid h1
   clear h1 hR
   go_enter Tryz.func71, Tryz.ntmps71
   go_wp2_with fail
   refine H1.out.mono ?_
   rintro e w1 ⟨rfl, hb1⟩
   have HE := Lib.hid (HB.out.trans (hb1.mono hsz))
   obtain ⟨D, hD⟩ : ∃ D, decide (RightV l) = D := ⟨_, rfl⟩
   have hRD : R = D := by rw [HR.out, hD]
   rw [hD]
   clear hb1 H1 HR hD
   go_wp2_with fail
   go_ret
   exact ⟨by rw [hRD]; rfl, HE.out⟩
  ·have d1 : ¬ (key.size : Int) ≤ 32 := by omega
   have HR := Lib.hid (show R = false by rw [← hR]; exact decide_eq_false fun h => c1 h.2.1)
   clear h1 hR
   go_enter Tryz.func71, Tryz.ntmps71
   go_wp2_with fail
   go_ret
   exact ⟨by rw [HR.out]; rfl, HB.out⟩
 ·have d0 : ¬ (1 : Int) ≤ (key.size : Int) := by omega
  have HR := Lib.hid (show R = false by rw [← hR]; exact decide_eq_false fun h => c0 h.1)
  clear h1 hR
  go_enter Tryz.func71, Tryz.ntmps71
  go_wp2_with fail
  go_ret
  exact ⟨by rw [HR.out]; rfl, HB.out⟩

end Code
end Go.Proofs.YtekhaejhmlebbaaGreat

/-
 What is right in layer 6, in the document's own words: addresses, records, messages.
-/
namespace Go.Proofs.YtekhaejhmlebbaaGreat
namespace Code
open Go.RowKit Num Span Vers
attribute [local go_sem ↓] Go.wp_at_zero Go.wp_at_succ

set_option maxRecDepth 100000 in
theorem refrecord_any (A : Option Addr) (c m : Nat) (key : ByteArray) (l : List Vr) (hm : l.length = m) (hm2 : m ≤ 140737488355328) (hk2 : key.size ≤ 140737488355328) (w : World) (hv : Vs w 0 w.heap.size A l) :
  Calls Tryz.prog 33 #[.agg #[.string key, .slice A m c]] w (fun e w' => e = .returned (.bool (decide (okR (key, l)))) ∧ Below w.heap.size w w') := by
 obtain ⟨W, hW⟩ : ∃ W, w.alloc (.cells #[.string key, .slice A m c] 53) = W := ⟨_, rfl⟩
 have hB : Bn w.heap.size 53 [.string key, .slice A m c] W := by rw [← hW]; exact heap_alloc_new _ _
 have k0 := hB.cell 0
 have k1 := hB.cell 1
 simp only [List.getElem?_cons_zero, List.getElem?_cons_succ] at k0 k1
 have hbW : Below w.heap.size w W := by rw [← hW]; exact (Below.refl _ w).alloc (Nat.le_refl _) _
 have h1 := ref_rightV_any A c m l hm W ((hv.below hbW).more hbW.size) hm2
 have hsz := hbW.size
 have HB := Lib.hid hbW
 clear hB hbW hv
 obtain ⟨R, hR⟩ : ∃ R, decide (okR (key, l)) = R := ⟨_, rfl⟩
 rw [hR]
 have hkl : key.toList.length = key.size := by rw [Lib.toList_data, Array.length_toList]; rfl
 by_cases c0 : 1 ≤ key.size
 case neg =>
  have hem : key.toList.isEmpty = true := by rw [List.isEmpty_iff_length_eq_zero]; omega
  have HR := Lib.hid (show R = false by rw [← hR]; exact decide_eq_false fun h => c0 h.1)
  clear h1 hR hkl
  go_enter Tryz.func33, Tryz.ntmps33
  go_wp2_with fail
  go_ret
  exact ⟨by rw [HR.out]; rfl, HB.out⟩
 have hem : key.toList.isEmpty = false := by rw [← Bool.not_eq_true, List.isEmpty_iff_length_eq_zero]; omega
 clear hkl
 by_cases c1 : key.size ≤ 32
 case neg =>
  have d1 : decide ((key.size : Int) ≤ 32) = false := decide_eq_false (by omega)
  have HR := Lib.hid (show R = false by rw [← hR]; exact decide_eq_false fun h => c1 h.2.1)
  clear h1 hR
  go_enter Tryz.func33, Tryz.ntmps33
  go_wp2_with fail
  go_ret
  exact ⟨by rw [HR.out]; rfl, HB.out⟩
 have d1 : decide ((key.size : Int) ≤ 32) = true := decide_eq_true (by omega)
 have HR := Lib.hid (show R = decide (RightV l) by rw [← hR]; exact decide_eq_decide.2 ⟨fun h => h.2.2, fun h => ⟨c0, c1, h⟩⟩)
 have H1 := Lib.hid h1
 clear h1 hR
 go_enter Tryz.func33, Tryz.ntmps33
 go_wp2_with fail
 refine H1.out.mono ?_
 rintro e w1 ⟨rfl, hb1⟩
 have HE := Lib.hid (HB.out.trans (hb1.mono hsz))
 obtain ⟨D, hD⟩ : ∃ D, decide (RightV l) = D := ⟨_, rfl⟩
 have hRD : R = D := by rw [HR.out, hD]
 rw [hD]
 clear hb1 H1 HR hD
 go_wp2_with fail
 go_ret
 exact ⟨by rw [hRD]; rfl, HE.out⟩

end Code
end Go.Proofs.YtekhaejhmlebbaaGreat

/-
 firthref06.Same and its parts: whether numbers, records, messages are the same.
-/
namespace Go.Proofs.YtekhaejhmlebbaaGreat
namespace Code
open Go.RowKit Num Span Vers
attribute [local go_sem ↓] Go.wp_at_zero Go.wp_at_succ

theorem taken_eq {α : Type} (d : α) {l m : List α} {k : Nat} (hl : k < l.length) (hm : k < m.length) (h : l.take k = m.take k) (he : l.getD k d = m.getD k d) : l.take (k + 1) = m.take (k + 1) := by
 rw [List.take_succ_eq_append_getElem hl, List.take_succ_eq_append_getElem hm, h]
 have e1 : l.getD k d = l[k] := by simp [List.getD_eq_getElem?_getD, hl]
 have e2 : m.getD k d = m[k] := by simp [List.getD_eq_getElem?_getD, hm]
 rw [← e1, ← e2, he]

set_option maxRecDepth 100000 in
set_option maxHeartbeats 4000000 in
theorem srecs_any (A A' : Option Addr) (c c' n n' : Nat) (l l' : List Rc) (hn : l.length = n) (hn' : l'.length = n') (w : World) (hv : Rs w 0 w.heap.size A l) (hv' : Rs w 0 w.heap.size A' l') (hb : n ≤ 140737488355328) (hb' : n' ≤ 140737488355328) :
  Calls Tryz.prog 20 #[.slice A n c, .slice A' n' c'] w fun e w' => e = .returned (.bool (decide (l = l'))) ∧ Below w.heap.size w w' := by
 obtain ⟨R, hR⟩ : ∃ R, decide (l = l') = R := ⟨_, rfl⟩
 rw [hR]
 by_cases hlen : n = n'
 ·subst hlen
  have HV := Lib.hid (And.intro hv (And.intro hv' (And.intro hn (And.intro hn' hR))))
  clear hv hv' hn hn' hR
  go_enter Tryz.func20, Tryz.ntmps20
  go_wp2
  go_loopw [5] (fun q wr => ∃ k : Nat, q = .int .i64 k ∧ k ≤ n ∧ Below w.heap.size w wr ∧ Hid (l.take k = l'.take k)) (fun q _ => n - (intOf q).toNat)
  case atStart => exact ⟨0, rfl, by omega, Below.refl _ _, Lib.hid rfl⟩
  case round =>
   obtain ⟨k, rfl, hk, hb1, hst⟩ := hrel
   have hsz := hb1.size
   by_cases hlt : k < n
   ·obtain ⟨b, off, A1, c1, rfl, _, hbB, a0, a1, hps, hz1⟩ := HV.out.1.at HV.out.2.2.1 hb1 hlt rfl
    obtain ⟨b', off', A1', c1', rfl, _, hbB', a0', a1', hps', hz1'⟩ := HV.out.2.1.at HV.out.2.2.2.1 hb1 hlt rfl
    have hy := taken_eq r0 (l := l) (m := l') (by have := HV.out.2.2.1; omega) (by have := HV.out.2.2.2.1; omega) hst.out
    have hz : l.getD k r0 ≠ l'.getD k r0 → ¬ l = l' := fun h e => h (by rw [e])
    obtain ⟨v, hvv⟩ : ∃ v, l.getD k r0 = v := ⟨_, rfl⟩
    obtain ⟨v', hvv'⟩ : ∃ v, l'.getD k r0 = v := ⟨_, rfl⟩
    rw [hvv] at a0 a1 hps hz1
    rw [hvv'] at a0' a1' hps' hz1'
    rw [hvv, hvv'] at hy hz
    clear hvv hvv'
    obtain ⟨x, vl⟩ := v
    obtain ⟨x', vl'⟩ := v'
    simp only at a0 a1 hps hz1 a0' a1' hps' hz1'
    obtain ⟨kp, hkp⟩ : ∃ kp, vl.length = kp := ⟨_, rfl⟩
    obtain ⟨kp', hkp'⟩ : ∃ kp, vl'.length = kp := ⟨_, rfl⟩
    rw [hkp] at a1 hz1
    rw [hkp'] at a1' hz1'
    have lb : b < wr.heap.size := by omega
    have lb' : b' < wr.heap.size := by omega
    have d1 : (0 : Int) ≤ (k : Int) := by omega
    have d2 : (k : Int) < (n : Int) := by omega
    by_cases hx : x = x'
    ·subst hx
     have h1 := ref_sameV_any A1 A1' c1 c1' kp kp' vl vl' hkp hkp' wr.drew (hps.more (B' := wr.drew.heap.size) (by exact hsz)) (hps'.more (B' := wr.drew.heap.size) (by exact hsz)) hz1.2.1 hz1'.2.1
     obtain ⟨q, hq⟩ : ∃ q, decide (vl = vl') = q := ⟨_, rfl⟩
     rw [hq] at h1
     have HN := Lib.hid (show (q = true → l.take (k + 1) = l'.take (k + 1)) ∧ (q = false → R = false) from ⟨fun h => hy (by rw [of_decide_eq_true (hq.trans h)]), fun h => by
      rw [← HV.out.2.2.2.2]
      exact decide_eq_false (hz (fun e => of_decide_eq_false (hq.trans h) (by injection e)))⟩)
     have H1 := Lib.hid h1
     clear h1 hy hz hq hkp hkp' hps hps' hst hz1 hz1'
     go_wp2
     go_region_held3 (fun V => V.cell? ⟨b, off + k * 2, none⟩ = some (.string x) ∧ V.cell? ⟨b, off + k * 2 + 1, none⟩ = some (.slice A1 kp c1) ∧ V.cell? ⟨b', off' + k * 2, none⟩ = some (.string x) ∧ V.cell? ⟨b', off' + k * 2 + 1, none⟩ = some (.slice A1' kp' c1'))
      (first | exact ⟨a0, a1, a0', a1'⟩ | exact ⟨cell_below b1 lb a0, cell_below b1 lb a1, cell_below b1 lb' a0', cell_below b1 lb' a1'⟩)
      (first | (go_at_call 55; refine H1.out.mono ?_; rintro e w1 ⟨rfl, b1⟩))
     have BE : Below w.heap.size w w1 := hb1.drew.trans (Below.mono b1 (by exact hsz))
     clear b1 H1 hb1
     cases q
     ·have HF := Lib.hid (HN.out.2 rfl)
      clear HN
      go_wp2
      go_ret
      exact ⟨by rw [HF.out]; rfl, BE⟩
     ·have HF := Lib.hid (HN.out.1 rfl)
      clear HN
      go_wp2
      exact ⟨⟨k + 1, rfl, by omega, BE, HF⟩, by simp only [intOf]; omega⟩
    ·have HZ := Lib.hid (show R = false by rw [← HV.out.2.2.2.2]; exact decide_eq_false (hz (fun e => hx (by injection e))))
     have g0 : (x.toList == x'.toList) = false := by rw [str_eq]; exact decide_eq_false hx
     clear hy hz hkp hkp' hps hps' hst hz1 hz1' hx
     go_wp2
     go_quiet (fail)
     go_wp2
     go_ret
     exact ⟨by rw [HZ.out]; rfl, hb1.trans (Span.below_drewN _ _ _)⟩
   ·have hkn : k = n := by omega
    subst hkn
    have HF := Lib.hid (show R = true by
     rw [← HV.out.2.2.2.2]
     refine decide_eq_true ?_
     have := hst.out
     rwa [List.take_of_length_le (by have := HV.out.2.2.1; omega), List.take_of_length_le (by have := HV.out.2.2.2.1; omega)] at this)
    clear hst
    go_wp2
    go_ret
    exact ⟨by rw [HF.out]; rfl, hb1⟩
 ·have HF := Lib.hid (show R = false by rw [← hR]; exact decide_eq_false fun h => hlen (by rw [← hn, ← hn', h]))
  clear hv hv' hn hn' hR
  go_enter Tryz.func20, Tryz.ntmps20
  go_wp2
  go_ret
  exact ⟨by rw [HF.out]; rfl, Below.refl _ _⟩
end Code
end Go.Proofs.YtekhaejhmlebbaaGreat
