/-
  fresh.List of versions: copies, each with a past of its own.
-/
import Derived.Test.YtbhidndgnldheaaVersFill
namespace Go.Proofs.Ytbhidndgnldheaa
namespace Vers
open Go.RowKit Span
attribute [local go_sem ↓] Go.wp_at_zero Go.wp_at_succ

/-- Copies of versions, in memory of the call's own. -/
def NewVs (l : List Vr) (w : World) (e : Ending) (w' : World) : Prop :=
  ∃ A c ps, e = .returned (.slice A l.length c) ∧ Hid (OwnVs w.heap.size w.heap.size w'.heap.size w' (.slice A l.length c) ps ∧ ps.map Prod.fst = l) ∧ Below w.heap.size w w'

/-- Copies of versions, in memory of the call's own, their pasts in rows of spans. -/
def OwnVsT (l : List Vr) (w : World) (e : Ending) (w' : World) : Prop :=
  ∃ A c ps, e = .returned (.slice A l.length c) ∧ Hid (OwnVs w.heap.size w.heap.size w'.heap.size w' (.slice A l.length c) ps ∧ ps.map Prod.fst = l ∧ ∀ p ∈ ps, Tg w' p.1.past.length p.2.1) ∧ Below w.heap.size w w'

/-- k of them have been copied. -/
def Copying (l : List Vr) (n g : Nat) (w : World) (iv : Value) (wr : World) : Prop :=
  ∃ (k : Nat) (ps : List Pv), iv = .int .i64 (k : Int) ∧ k ≤ n ∧ ps.map Prod.fst = l.take k ∧ Fill wr g n ps ∧ (∀ p ∈ ps, Pa wr (g + 1) wr.heap.size p.2.1 p.2.2 p.1 ∧ Tg wr p.1.past.length p.2.1) ∧ Below w.heap.size w wr

set_option maxRecDepth 100000 in
set_option maxHeartbeats 2000000 in
theorem list_own (A : Option Addr) (c n : Nat) (l : List Vr) (hn : l.length = n) (L B : Nat) (w : World) (hB : B ≤ w.heap.size) (hv : Vs w L B A l) (hbig : n ≤ 1024) (hp : ∀ v ∈ l, v.past.length ≤ 4294967296) :
    Calls Try.prog 62 #[.slice A n c, .func (.func 63) #[] #[]] w (OwnVsT l w) := by
  by_cases h0 : n = 0
  · subst h0
    have : l = [] := List.eq_nil_of_length_eq_zero hn
    subst this
    clear hv hp
    go_enter Try.func62, Try.ntmps62
    go_wp2_with fail
    go_ret
    exact ⟨none, 0, [], rfl, Lib.hid ⟨⟨⟨rfl, .inl ⟨rfl, rfl⟩⟩, by simp⟩, rfl, by simp⟩, Below.refl _ _⟩
  obtain ⟨i0, hi0, hz0, hz1, hz2⟩ := info_parts info_ver
  have e1 : ((n : Int) == 0) = false := by simp; omega
  have e2 : ¬ (n : Int) = 0 := by omega
  have HV := Lib.hid (And.intro hv (And.intro hn hp))
  clear hv hn hp
  go_enter Try.func62, Try.ntmps62
  go_wp2_with (at_make; refine wpList_make_full _ rfl _ _ 47 rfl w.heap.size 69 i0 _ 5 Try.underlying47 hi0 hz0 hz1 _ _ _ _ n rfl rfl rfl rfl (by rw [hz2]; omega) (by unfold maxLen; omega) (Nat.le_refl _) ?_; intro w1 o1 g1; have b1 : Below w.heap.size w w1 := (Below.refl _ _).grown g1 (Nat.le_refl _) (fun k hk => by cases hk))
  obtain ⟨g, hg⟩ : ∃ g, w.heap.size = g := ⟨_, rfl⟩
  have HG := Lib.hid hg
  have HI : Hid (Copying l n g w (.int .i64 0) w1) := Lib.hid ⟨0, [], rfl, by omega, by simp, fill_start (by rw [← hg]; exact o1), by simp, b1⟩
  rw [hg]
  clear hg o1 g1 b1
  go_loopw [16] (fun iv wr => Copying l n g w iv wr) (fun iv _ => n - (intOf iv).toNat)
  case atStart => exact HI.out
  case round =>
    obtain ⟨k, ps, rfl, hk, hps, hf, hpa, hb⟩ := hrel
    clear HI
    by_cases hlt : k < n
    · obtain ⟨b, off, A1, c1, rfl, _, hbB, a0, a1, a2, a3, a4, hpv⟩ := HV.out.1.at HV.out.2.1 (hb.mono hB) hlt rfl
      have hkl : k < l.length := by have := HV.out.2.1; omega
      have hmem : l.getD k v0 ∈ l := by
        rw [List.getD_eq_getElem?_getD, List.getElem?_eq_getElem hkl]
        exact List.getElem_mem _
      have hbp := HV.out.2.2 _ hmem
      have HT : Hid (l.take (k + 1) = l.take k ++ [l.getD k v0]) := Lib.hid (by
        rw [List.take_succ_eq_append_getElem hkl]
        simp [List.getD_eq_getElem?_getD, hkl])
      obtain ⟨v, hvv⟩ : ∃ v, l.getD k v0 = v := ⟨_, rfl⟩
      rw [hvv] at a0 a1 a2 a3 a4 hpv hbp
      have HVV := Lib.hid hvv
      obtain ⟨s, vn, vp, vg, vx⟩ := v
      simp only at a0 a1 a2 a3 a4 hbp
      obtain ⟨kp, hkp⟩ : ∃ kp, vp.length = kp := ⟨_, rfl⟩
      rw [hkp] at a2 hbp
      have hsz := hb.size
      have d1 : (0 : Int) ≤ (k : Int) := by omega
      have d2 : (k : Int) < (n : Int) := by omega
      have hpl : ps.length = k := by have h := congrArg List.length hps; simpa [List.length_take, Nat.min_eq_left (Nat.le_of_lt hkl)] using h
      have HO := Lib.hid (And.intro hf (And.intro hpa (And.intro hb (And.intro hps (And.intro hpl (And.intro hkp hpv))))))
      have hK : Hid (∀ W, Below wr.heap.size wr W → Calls Try.prog 63 #[.agg #[.int .i64 s, .int .i64 vn, .slice A1 kp c1, .bool vg, .string vx]] W (OwnVerT ⟨s, vn, vp, vg, vx⟩ W)) := Lib.hid fun W hW =>
        ver_own A1 c1 kp s vn vp vg vx hkp (by omega) L B W (by have := hW.size; omega) (hpv.below (hW.mono (by omega)))
      clear hf hpa hb hps hpl hkp hpv hvv hmem
      go_wp2_with fail
      have hW : Below wr.heap.size wr (wr.alloc (.cells #[.int .i64 s, .int .i64 vn, .slice A1 kp c1, .bool vg, .string vx] 69)) := (Below.refl _ wr).alloc (Nat.le_refl _) _
      refine Calls.mono (hK.out _ hW) ?_
      rintro e w2 ⟨A2, c2, rfl, hp2, b2⟩
      rw [HO.out.2.2.2.2.2.1]
      have hs2 := hW.size
      have b3 : Below wr.heap.size wr w2 := hW.trans (b2.mono hs2)
      have hf2 : Fill w2 g n ps := HO.out.1.keep (b3.block g HO.out.1.lt)
      have hgl := HO.out.1.lt
      obtain ⟨y0, hy0⟩ := hf2.cell (k * 5) (by omega)
      obtain ⟨y1, hy1⟩ := hf2.cell (k * 5 + 1) (by omega)
      obtain ⟨y2, hy2⟩ := hf2.cell (k * 5 + 2) (by omega)
      obtain ⟨y3, hy3⟩ := hf2.cell (k * 5 + 3) (by omega)
      obtain ⟨y4, hy4⟩ := hf2.cell (k * 5 + 4) (by omega)
      have f0 := hf2.frozen (k * 5)
      have f1 := hf2.frozen (k * 5 + 1)
      have f2 := hf2.frozen (k * 5 + 2)
      have f3 := hf2.frozen (k * 5 + 3)
      have f4 := hf2.frozen (k * 5 + 4)
      have HF2 := Lib.hid (And.intro hf2 (And.intro b3 hp2))
      clear hf2 b3 hp2 hW b2 hK
      go_wp2_with fail
      rw [put5o_lit]
      obtain ⟨Y, hY⟩ : ∃ Y, put5o w2 g (k * 5) (.int .i64 s) (.int .i64 vn) (.slice A2 kp c2) (.bool vg) (.string vx) = Y := ⟨_, rfl⟩
      have hfill := HF2.out.1.put (p := (⟨s, vn, vp, vg, vx⟩, A2, c2)) (by have := HO.out.2.2.2.2.1; omega) (k * 5) (by have := HO.out.2.2.2.2.1; omega)
      simp only at hfill
      rw [HO.out.2.2.2.2.2.1, hY] at hfill
      have hYh : ∀ q, q ≠ g → Y.heap[q]? = w2.heap[q]? := fun q hq => by rw [← hY]; exact put5o_heap hq
      have hYs : Y.heap.size = w2.heap.size := by rw [← hY]; exact put5o_size
      have hYb : Below g w2 Y := by rw [← hY]; exact put5o_below
      rw [hY]
      have hwg : w.heap.size = g := HG.out
      have s2 := HF2.out.2.1.size
      have hkeep : ∀ a : Addr, g + 1 ≤ a.block → Y.cell? a = w2.cell? a := fun a ha => World.cell?_of_block (hYh _ (by omega))
      have hrel : Copying l n g w (.int .i64 ((k : Int) + 1)) Y := ⟨k + 1, ps ++ [(⟨s, vn, vp, vg, vx⟩, A2, c2)], rfl, by omega, by
          rw [List.map_append, HO.out.2.2.2.1, HT.out, HVV.out]; rfl, hfill, fun q hq => by
          rcases List.mem_append.1 hq with hq | hq
          · have h1 := (HO.out.2.1 q hq).1.below HF2.out.2.1
            have h2 := (HO.out.2.1 q hq).2.below HF2.out.2.1
            exact ⟨Pa.more (h1.keep fun a ha _ => hkeep a ha) (by omega), h2.keep fun hn a ha _ => hYh _ (by have := h1.2.2.2.2 hn a ha; omega)⟩
          · rw [List.mem_singleton.1 hq]
            have h1 := Pa.less HF2.out.2.2.out.1 (show g + 1 ≤ _ by simp; omega)
            exact ⟨Pa.more (h1.keep fun a ha _ => hkeep a ha) (by omega), HF2.out.2.2.out.2.keep fun hn a ha _ => hYh _ (by have := h1.2.2.2.2 hn a ha; omega)⟩, by
          rw [hwg]
          have h1 := HO.out.2.2.1
          rw [hwg] at h1
          exact (h1.trans (HF2.out.2.1.mono (by omega))).trans hYb⟩
      exact ⟨hrel, by simp only [intOf]; omega⟩
    · obtain rfl : k = n := by omega
      have hpl : ps.length = k := by have h := congrArg List.length hps; have h2 := HV.out.2.1; simpa [List.length_take, h2] using h
      have hfin : OwnVsT l w (.returned (.slice (some ⟨g, 0, none⟩) k k)) wr := ⟨some ⟨g, 0, none⟩, k, ps, by rw [HV.out.2.1], Lib.hid ⟨⟨by
          rw [HV.out.2.1, hpl]
          exact hf.own hpl _ (by rw [HG.out]; exact Nat.le_refl _) (by unfold maxLen; omega), fun p hp => Pa.less (hpa p hp).1 (by rw [HG.out]; omega)⟩, by
          rw [hps, List.take_of_length_le (by have := HV.out.2.1; omega)], fun p hp => (hpa p hp).2⟩, hb⟩
      have HF := Lib.hid hfin
      clear hfin hf hpa hb hps hpl
      go_wp2_with fail
      go_ret
      exact HF.out
theorem list_any (A : Option Addr) (c n : Nat) (l : List Vr) (hn : l.length = n) (L B : Nat) (w : World) (hB : B ≤ w.heap.size) (hv : Vs w L B A l) (hbig : n ≤ 1024) (hp : ∀ v ∈ l, v.past.length ≤ 4294967296) :
    Calls Try.prog 62 #[.slice A n c, .func (.func 63) #[] #[]] w (NewVs l w) :=
  (list_own A c n l hn L B w hB hv hbig hp).mono fun _ _ ⟨A', c', ps, h1, h2, h3⟩ => ⟨A', c', ps, h1, Lib.hid ⟨h2.out.1, h2.out.2.1⟩, h3⟩
end Vers
end Go.Proofs.Ytbhidndgnldheaa
