/-
 vers.together tells all versions of both sets by rising dots, each once, or that two unlike ones have one dot.
-/
import Derived.Test.YtekhaejhmlebbaaGreatRGSame
namespace Go.Proofs.YtekhaejhmlebbaaGreat
namespace Vers
open Go.RowKit Span
attribute [local go_sem ↓] Go.wp_at_zero Go.wp_at_succ

def lenV : Value → Nat | .slice _ n _ => n | _ => 0

def Together (a b : List Vr) (w : World) (e : Ending) (w' : World) : Prop :=
 (∃ A c ps, e = .returned (.tuple #[.slice A ps.length c, .int .i64 0]) ∧ OwnVs w.heap.size 0 w.heap.size w' (.slice A ps.length c) ps ∧ ps.length ≤ a.length + b.length ∧ Below w.heap.size w w' ∧ Hid ((ps.map Prod.fst).Pairwise dlt ∧ (∀ v, v ∈ ps.map Prod.fst ↔ v ∈ a ∨ v ∈ b) ∧ ¬ Twin a b)) ∨
 (e = .returned (.tuple #[.slice none 0 0, .int .i64 50]) ∧ Below w.heap.size w w' ∧ Hid (Twin a b))

def Going (a b : List Vr) (base ab : Nat) (w : World) (av bv : Value) (wr : World) : Prop :=
 ∃ (i j na nb : Nat) (Aa Ab : Option Addr) (ca cb : Nat) (ps : List Pv), av = .slice Aa na ca ∧ bv = .slice Ab nb cb ∧ Hid ((a.drop i).length = na ∧ (b.drop j).length = nb ∧ Tog a b i j (ps.map Prod.fst) ∧ ps.length ≤ i + j) ∧ na ≤ ca ∧ nb ≤ cb ∧
  Hid (Vs wr 0 w.heap.size Aa (a.drop i)) ∧ Hid (Vs wr 0 w.heap.size Ab (b.drop j)) ∧ Hid (Box base w.heap.size ab wr ps) ∧ Hid (Below w.heap.size w wr) ∧ base ≤ wr.heap.size

theorem two_keep {W0 V V' : World} {p o p' o' : Nat} {x0 x1 y0 y1 : Option Value} (hp : p < W0.heap.size) (hp' : p' < W0.heap.size) (hb : Below V.heap.size V V')
  (h : V.cell? ⟨p, o, none⟩ = x0 ∧ V.cell? ⟨p, o + 1, none⟩ = x1 ∧ V.cell? ⟨p', o', none⟩ = y0 ∧ V.cell? ⟨p', o' + 1, none⟩ = y1 ∧ Below W0.heap.size W0 V) :
  V'.cell? ⟨p, o, none⟩ = x0 ∧ V'.cell? ⟨p, o + 1, none⟩ = x1 ∧ V'.cell? ⟨p', o', none⟩ = y0 ∧ V'.cell? ⟨p', o' + 1, none⟩ = y1 ∧ Below W0.heap.size W0 V' := by
 have hs := h.2.2.2.2.size
 have key : ∀ a : Addr, a.block < W0.heap.size → V'.cell? a = V.cell? a := fun a ha => hb.cell (by omega)
 exact ⟨(key ⟨p, o, none⟩ hp).trans h.1, (key ⟨p, o + 1, none⟩ hp).trans h.2.1, (key ⟨p', o', none⟩ hp').trans h.2.2.1, (key ⟨p', o' + 1, none⟩ hp').trans h.2.2.2.1, h.2.2.2.2.trans (hb.mono hs)⟩
theorem two_drew {W0 V : World} {p o p' o' : Nat} {x0 x1 y0 y1 : Option Value}
  (h : V.cell? ⟨p, o, none⟩ = x0 ∧ V.cell? ⟨p, o + 1, none⟩ = x1 ∧ V.cell? ⟨p', o', none⟩ = y0 ∧ V.cell? ⟨p', o' + 1, none⟩ = y1 ∧ Below W0.heap.size W0 V) :
  V.drew.cell? ⟨p, o, none⟩ = x0 ∧ V.drew.cell? ⟨p, o + 1, none⟩ = x1 ∧ V.drew.cell? ⟨p', o', none⟩ = y0 ∧ V.drew.cell? ⟨p', o' + 1, none⟩ = y1 ∧ Below W0.heap.size W0 V.drew := ⟨h.1, h.2.1, h.2.2.1, h.2.2.2.1, h.2.2.2.2.drew⟩
theorem both_heads {sa vna sb vnb q : Int} {vpa vpb : List Sp} {vga vgb : Bool} {vxa vxb : ByteArray} {la lb : List Vr} (hcl : q ≤ 0 ↔ sa < sb ∨ (sa = sb ∧ vna ≤ vnb)) (ha : (⟨sa, vna, vpa, vga, vxa⟩ :: la : List Vr).Pairwise dlt) (hb : (⟨sb, vnb, vpb, vgb, vxb⟩ :: lb : List Vr).Pairwise dlt) :
  (q ≤ 0 → ∀ z ∈ (⟨sb, vnb, vpb, vgb, vxb⟩ :: lb : List Vr), dlt ⟨sa, vna, vpa, vga, vxa⟩ z ∨ same ⟨sa, vna, vpa, vga, vxa⟩ z) ∧ (¬ q ≤ 0 → ∀ z ∈ (⟨sa, vna, vpa, vga, vxa⟩ :: la : List Vr), dlt ⟨sb, vnb, vpb, vgb, vxb⟩ z) := by
 rw [List.pairwise_cons] at ha hb
 constructor
 ·intro h z hz
  have h1 := hcl.1 h
  rcases List.mem_cons.1 hz with rfl | hz
  ·unfold dlt same; simp only; omega
  ·have h2 := hb.1 z hz
   unfold dlt at h2 ⊢; unfold same; simp only at h2 ⊢; omega
 ·intro h z hz
  have h1 : ¬ (sa < sb ∨ (sa = sb ∧ vna ≤ vnb)) := fun h2 => h (hcl.2 h2)
  rcases List.mem_cons.1 hz with rfl | hz
  ·unfold dlt; simp only; omega
  ·have h2 := ha.1 z hz
   unfold dlt at h2 ⊢; simp only at h2 ⊢; omega
theorem last_mem {ps : List Pv} (h : 0 < ps.length) : (ps.getD (ps.length - 1) z0).1 ∈ ps.map Prod.fst := by
 refine List.mem_map.2 ⟨ps.getD (ps.length - 1) z0, ?_, rfl⟩
 rw [List.getD_eq_getElem?_getD, List.getElem?_eq_getElem (by omega)]
 exact List.getElem_mem _
theorem last_map {ps : List Pv} (h : 0 < ps.length) : (ps.map Prod.fst).getD ((ps.map Prod.fst).length - 1) v0 = (ps.getD (ps.length - 1) z0).1 := by
 have h1 : ps.length - 1 < ps.length := by omega
 simp [List.getD_eq_getElem?_getD, h1]
theorem step_a_last {a b : List Vr} {i j : Nat} {ps : List Pv} (h : Tog a b i j (ps.map Prod.fst)) {x : Vr} {l : List Vr} (hx : a.drop i = x :: l) (h0 : 0 < ps.length) :
  ¬ ((ps.getD (ps.length - 1) z0).1.s = x.s ∧ (ps.getD (ps.length - 1) z0).1.n = x.n) := fun hs => dlt_irrefl (h.la _ (last_mem h0) x (by rw [hx]; simp)) hs
theorem step_b_new {a b : List Vr} {i j : Nat} {ps : List Pv} (h : Tog a b i j (ps.map Prod.fst)) {y : Vr} {l : List Vr} (hy : b.drop j = y :: l) (hn : 0 < ps.length → ¬ ((ps.getD (ps.length - 1) z0).1.s = y.s ∧ (ps.getD (ps.length - 1) z0).1.n = y.n)) :
  ∀ u ∈ ps.map Prod.fst, dlt u y := tog_new h hy fun hp => by
 rw [List.length_map] at hp
 rw [last_map hp]
 exact hn hp
theorem tog_close {a b us : List Vr} {i j : Nat} (h : Tog a b i j us) (ha : a.drop i = []) (hb : b.drop j = []) : us.Pairwise dlt ∧ (∀ v, v ∈ us ↔ v ∈ a ∨ v ∈ b) ∧ ¬ Twin a b := by
 have h1 := List.drop_eq_nil_iff.1 ha
 have h2 := List.drop_eq_nil_iff.1 hb
 have e1 : i = a.length := Nat.le_antisymm h.ri h1
 have e2 : j = b.length := Nat.le_antisymm h.rj h2
 rw [e1, e2] at h
 exact tog_end h
section
variable {a b : List Vr} {i j ka kb na nb base ab : Nat} {w wr w4 : World} {ps : List Pv} {x y : Vr} {la lb : List Vr} {Aa Ab Ax P : Option Addr} {ca cb cx q : Nat}
theorem going_a (hT : (x :: la).length = ka + 1 ∧ lb.length = nb ∧ Tog a b i j (ps.map Prod.fst) ∧ ps.length ≤ i + j) (ha : a.Pairwise dlt) (hb : b.Pairwise dlt) (hx : a.drop i = x :: la) (hlb : b.drop j = lb) (hle : ∀ z ∈ lb, dlt x z ∨ same x z)
  (ht : Vs wr 0 w.heap.size Ax la) (hvb : Vs wr 0 w.heap.size Ab lb) (hbx : Box base w.heap.size ab w4 (ps ++ [(x, P, q)])) (hbel : Below w.heap.size w wr) (hb4 : Below w.heap.size wr w4) (hkx : ka ≤ cx) (hcb : nb ≤ cb) (hs : base ≤ w4.heap.size) : Going a b base ab w (.slice Ax ka cx) (.slice Ab nb cb) w4 := by
 obtain ⟨hi, _, hd⟩ := drop_split hx
 refine ⟨i + 1, j, ka, nb, Ax, Ab, cx, cb, ps ++ [(x, P, q)], rfl, rfl, Lib.hid ⟨?_, ?_, ?_, ?_⟩, hkx, hcb, Lib.hid ?_, Lib.hid ?_, Lib.hid hbx, Lib.hid (hbel.trans hb4), hs⟩
 ·rw [hd]; simpa using hT.1
 ·rw [hlb]; exact hT.2.1
 ·rw [List.map_append]
  exact tog_a hT.2.2.1 ha hb hx (by rw [hlb]; exact hle)
 ·have := hT.2.2.2
  simp; omega
 ·rw [hd]; exact ht.below hb4
 ·rw [hlb]; exact hvb.below hb4
theorem going_b (hT : la.length = na ∧ (y :: lb).length = kb + 1 ∧ Tog a b i j (ps.map Prod.fst) ∧ ps.length ≤ i + j) (hb : b.Pairwise dlt) (hla : a.drop i = la) (hy : b.drop j = y :: lb) (hlt : ∀ z ∈ la, dlt y z) (hnew : ∀ u ∈ ps.map Prod.fst, dlt u y)
  (ht : Vs wr 0 w.heap.size Ax lb) (hva : Vs wr 0 w.heap.size Aa la) (hbx : Box base w.heap.size ab w4 (ps ++ [(y, P, q)])) (hbel : Below w.heap.size w wr) (hb4 : Below w.heap.size wr w4) (hkx : kb ≤ cx) (hca : na ≤ ca) (hs : base ≤ w4.heap.size) : Going a b base ab w (.slice Aa na ca) (.slice Ax kb cx) w4 := by
 obtain ⟨hi, _, hd⟩ := drop_split hy
 refine ⟨i, j + 1, na, kb, Aa, Ax, ca, cx, ps ++ [(y, P, q)], rfl, rfl, Lib.hid ⟨?_, ?_, ?_, ?_⟩, hca, hkx, Lib.hid ?_, Lib.hid ?_, Lib.hid hbx, Lib.hid (hbel.trans hb4), hs⟩
 ·rw [hla]; exact hT.1
 ·rw [hd]; simpa using hT.2.1
 ·rw [List.map_append]
  exact tog_b hT.2.2.1 hb hy (by rw [hla]; exact hlt) hnew
 ·have := hT.2.2.2
  simp; omega
 ·rw [hla]; exact hva.below hb4
 ·rw [hd]; exact ht.below hb4
theorem going_b_old (hT : la.length = na ∧ (y :: lb).length = kb + 1 ∧ Tog a b i j (ps.map Prod.fst) ∧ ps.length ≤ i + j) (hb : b.Pairwise dlt) (hla : a.drop i = la) (hy : b.drop j = y :: lb) (hin : y ∈ ps.map Prod.fst)
  (ht : Vs wr 0 w.heap.size Ax lb) (hva : Vs wr 0 w.heap.size Aa la) (hbx : Box base w.heap.size ab w4 ps) (hbel : Below w.heap.size w wr) (hb4 : Below w.heap.size wr w4) (hkx : kb ≤ cx) (hca : na ≤ ca) (hs : base ≤ w4.heap.size) : Going a b base ab w (.slice Aa na ca) (.slice Ax kb cx) w4 := by
 obtain ⟨hi, _, hd⟩ := drop_split hy
 refine ⟨i, j + 1, na, kb, Aa, Ax, ca, cx, ps, rfl, rfl, Lib.hid ⟨?_, ?_, ?_, ?_⟩, hca, hkx, Lib.hid ?_, Lib.hid ?_, Lib.hid hbx, Lib.hid (hbel.trans hb4), hs⟩
 ·rw [hla]; exact hT.1
 ·rw [hd]; simpa using hT.2.1
 ·exact tog_again hT.2.2.1 hb hy hin
 ·have := hT.2.2.2
  omega
 ·rw [hla]; exact hva.below hb4
 ·rw [hd]; exact ht.below hb4
end

set_option maxRecDepth 100000 in
set_option maxHeartbeats 1000000 in
theorem together_any (A A' : Option Addr) (c c' n n' : Nat) (a b : List Vr) (hn : a.length = n) (hn' : b.length = n') (hnc : n ≤ c) (hnc' : n' ≤ c') (w : World) (hv : Vs w 0 w.heap.size A a) (hv' : Vs w 0 w.heap.size A' b) (hra : a.Pairwise dlt) (hrb : b.Pairwise dlt) (hl : n ≤ 512) (hl' : n' ≤ 512) :
  Calls Tryz.prog 73 #[.slice A n c, .slice A' n' c'] w (Together a b w) := by
 obtain ⟨i0, hi0, hz0, hz1, hz2⟩ := info_parts info_ver
 have HV := Lib.hid (And.intro hv (And.intro hv' (And.intro hn (And.intro hn' (And.intro hra hrb)))))
 clear hv hv' hn hn' hra hrb
 go_enter Tryz.func73, Tryz.ntmps73
 go_wp2_with (at_make; refine wpList_make_own _ rfl _ _ 50 rfl w.heap.size 59 i0 _ 5 Tryz.underlying50 hi0 hz0 hz1 _ _ _ (n + n') rfl rfl (by simp) (by rw [hz2]; omega) (by unfold maxLen; omega) (Nat.le_refl _) ?_; intro w1 o1 g1)
 obtain ⟨base, hbase⟩ : ∃ base, w.heap.size = base := ⟨_, rfl⟩
 have hs1 := g1.size
 have hs1' := (o1.lt w.heap.size rfl).2
 have HI : Hid (∀ W, W = w1.alloc (.cells #[.slice (some ⟨w.heap.size, 0, none⟩) 0 (n + n')] 50) → Going a b base w1.heap.size w (.slice A n c) (.slice A' n' c') W) := Lib.hid fun W hW => by
  have b1 : Below w.heap.size w w1 := (Below.refl _ _).grown g1 (Nat.le_refl _) (fun k hk => by cases hk)
  have b2 : Below w.heap.size w W := by rw [hW]; exact b1.alloc hs1 _
  have hbx : Boxed W w1.heap.size 50 (.slice (some ⟨w.heap.size, 0, none⟩) 0 (n + n')) := by rw [hW]; exact World.alloc_heap_new _ _
  have how : W.ownsRow w.heap.size 59 5 (.slice (some ⟨w.heap.size, 0, none⟩) 0 (n + n')) 0 [] := by rw [hW]; exact o1.alloc _
  refine ⟨0, 0, n, n', A, A', c, c', [], rfl, rfl, Lib.hid ⟨by simpa using HV.out.2.2.1, by simpa using HV.out.2.2.2.1, tog_start a b, by simp⟩, hnc, hnc', Lib.hid (HV.out.1.below b2), Lib.hid (HV.out.2.1.below b2), Lib.hid ⟨_, hbx, ?_, by simp⟩, Lib.hid b2, ?_⟩
  ·rw [← hbase]; exact how
  ·rw [← hbase]; exact b2.size
 have hab : w.heap.size ≤ w1.heap.size := hs1
 have HBS := Lib.hid hbase
 obtain ⟨ab, habb⟩ : ∃ ab, w1.heap.size = ab := ⟨_, rfl⟩
 have hbab : base ≤ ab := by omega
 rw [habb] at HI
 have HAB := Lib.hid habb
 go_wp2_with fail
 rw [habb]
 rw [hbase] at HI ⊢
 clear o1 g1 hs1 hs1' hab habb hbase
 go_loopw [0, 1] (fun av bv wr => Going a b base ab w av bv wr) (fun av bv _ => lenV av + lenV bv)
 case atStart => exact HI.out _ rfl
 case round =>
  obtain ⟨i, j, na, nb, Aa, Ab, ca, cb, ps, rfl, rfl, hT, hca, hcb, hva, hvb, hbox, hbel, hbs⟩ := hrel
  clear HI
  obtain ⟨la, hla⟩ : ∃ la, a.drop i = la := ⟨_, rfl⟩
  obtain ⟨lb, hlb⟩ : ∃ lb, b.drop j = lb := ⟨_, rfl⟩
  rw [hla] at hT hva
  rw [hlb] at hT hvb
  have HL := Lib.hid (And.intro hla hlb)
  clear hla hlb
  have hbw := hbel.out
  have hsz := hbw.size
  obtain ⟨W0, hW0⟩ : ∃ W0, wr.alloc (.cells #[.int .i64 0, .int .i64 0, .slice none 0 0, .bool false, .string ⟨#[]⟩] 59) = W0 := ⟨_, rfl⟩
  obtain ⟨m, hm⟩ : ∃ m, wr.heap.size = m := ⟨_, rfl⟩
  have Z0 : W0.cell? ⟨m, 0, none⟩ = some (.int .i64 0) ∧ W0.cell? ⟨m, 1, none⟩ = some (.int .i64 0) ∧ W0.cell? ⟨m, 2, none⟩ = some (.slice none 0 0) ∧ W0.cell? ⟨m, 3, none⟩ = some (.bool false) ∧ W0.cell? ⟨m, 4, none⟩ = some (.string ⟨#[]⟩) := by
   rw [← hW0, ← hm]; exact ⟨by simp, by simp, by simp, by simp, by simp⟩
  have hnew : W0.heap[m]? = some (.cells #[.int .i64 0, .int .i64 0, .slice none 0 0, .bool false, .string ⟨#[]⟩] 59) := by rw [← hW0, ← hm]; exact World.alloc_heap_new _ _
  have F0 : ∀ r, W0.frozen? ⟨m, r, none⟩ = false := fun r => by simp [World.frozen?, hnew]
  have lm : m < W0.heap.size := by rw [← hW0, ← hm]; simp
  have bW0 : Below wr.heap.size wr W0 := by rw [← hW0]; exact (Below.refl _ _).alloc (Nat.le_refl _) _
  have HZ := Lib.hid (And.intro Z0 (And.intro F0 (And.intro lm bW0)))
  have HW0 := Lib.hid (And.intro hW0 hm)
  have hmsz : w.heap.size ≤ m := by omega
  clear Z0 F0 lm bW0 hW0 hm hbw hnew
  rcases la with _ | ⟨xa, la⟩
  ·obtain rfl : na = 0 := by have := hT.out.1; simpa using this.symm
   rcases lb with _ | ⟨xb, lb⟩
   ·obtain rfl : nb = 0 := by have := hT.out.2.1; simpa using this.symm
    have hend := Lib.hid (And.intro (tog_close hT.out.2.2.1 HL.out.1 HL.out.2) (show ps.length ≤ a.length + b.length by have h1 := hT.out.2.2.2; have h2 := hT.out.2.2.1.ri; have h3 := hT.out.2.2.1.rj; omega))
    obtain ⟨v, hb1, hb2⟩ := hbox.out
    obtain ⟨A2, c2, rfl⟩ := own_form hb2.1
    have hc0 := hb1.cell
    have HB2 := Lib.hid hb2
    clear hb1 hb2
    go_wp2_with fail
    go_ret2
    exact .inl ⟨A2, c2, ps, rfl, by have h := HB2.out; rw [← HBS.out] at h; exact h, hend.out.2, hbel.out, Lib.hid hend.out.1⟩
   ·obtain ⟨kb, rfl⟩ : ∃ kb, nb = kb + 1 := ⟨nb - 1, by have := hT.out.2.1; simp at this; omega⟩
    have hkb : lb.length = kb := by have := hT.out.2.1; simpa using this
    obtain ⟨pb, offb, Pb1, qb, rfl, hpb, hxb⟩ := vs_head hvb.out
    have htl := vs_tail hvb.out
    obtain ⟨sb, vnb, vpb, vgb, vxb⟩ := xb
    obtain ⟨kpb, hkpb⟩ : ∃ kpb, vpb.length = kpb := ⟨_, rfl⟩
    have HPB := Lib.hid (And.intro hkpb (And.intro hxb (And.intro htl hkb)))
    have e1 : (0 : Int) < ((kb : Int) + 1) := by omega
    have e2b : (((kb : Int) + 1) == 0) = false := by simp; omega
    have e3b : decide ((0 : Int) < ((kb : Int) + 1)) = true := decide_eq_true (by omega)
    have e4b : ¬ ((kb : Int) + 1 = 0) := by omega
    clear hkpb hxb htl hkb
    have HLE : Hid (∀ z ∈ ([] : List Vr), dlt ⟨sb, vnb, vpb, vgb, vxb⟩ z) := Lib.hid (by simp)
    go_wp2_with fail
    rw [HW0.out.1]
    go_quiet (fail)
    obtain ⟨V1, hV1⟩ : ∃ V1, W0.drewN nq = V1 := ⟨_, rfl⟩
    have hB1 : Below W0.heap.size W0 V1 := by rw [← hV1]; exact below_drewN _ _ _
    rw [hV1, HW0.out.2]
    clear hV1
    obtain ⟨⟨zz0, zz1, zz2, zz3, zz4⟩, zf, lm, bW0⟩ := HZ.out
    have z0 := (hB1.cell (p := ⟨m, 0, none⟩) lm).trans zz0
    have z1 := (hB1.cell (p := ⟨m, 1, none⟩) lm).trans zz1
    have z2 := (hB1.cell (p := ⟨m, 2, none⟩) lm).trans zz2
    have z3 := (hB1.cell (p := ⟨m, 3, none⟩) lm).trans zz3
    have z4 := (hB1.cell (p := ⟨m, 4, none⟩) lm).trans zz4
    have bV : Below m wr V1 := by have h := bW0.trans (hB1.mono bW0.size); rwa [HW0.out.2] at h
    have fV : ∀ r, V1.frozen? ⟨m, r, none⟩ = false := fun r => (hB1.frozen (p := ⟨m, r, none⟩) lm).trans (zf r)
    have f0 := fV 0
    have f1 := fV 1
    have f2 := fV 2
    have f3 := fV 3
    have f4 := fV 4
    have lmV : m < V1.heap.size := Nat.lt_of_lt_of_le lm hB1.size
    obtain ⟨x0, x1, x2, x3, x4, _⟩ := HPB.out.2.1.keep (w' := V1) (Nat.zero_le _) hpb (fun q _ hq => bV.cell (by omega))
    simp only at x0 x1 x2 x3 x4
    rw [HPB.out.1] at x2
    have hne : pb ≠ m := by omega
    have HV1 := Lib.hid (And.intro bV lmV)
    clear zz0 zz1 zz2 zz3 zz4 zf lm bW0 bV fV lmV hB1
    obtain ⟨Ax, cx, hrun, hkx, htlx⟩ := slice_tail pb offb kb cb hcb
    have HTX := Lib.hid htlx
    clear htlx
    go_wp2_with fail
    go_region_held3 (fun V => V.cell? ⟨pb, offb, none⟩ = some (.int .i64 sb) ∧ V.cell? ⟨pb, offb + 1, none⟩ = some (.int .i64 vnb) ∧ V.cell? ⟨pb, offb + 2, none⟩ = some (.slice Pb1 kpb qb) ∧ V.cell? ⟨pb, offb + 3, none⟩ = some (.bool vgb) ∧ V.cell? ⟨pb, offb + 4, none⟩ = some (.string vxb))
     (first | (with_reducible exact put5_far_lit hne hHeld) | (with_reducible exact put5_far_lit hne ⟨x0, x1, x2, x3, x4⟩) | (with_reducible exact five_drew ⟨x0, x1, x2, x3, x4⟩)) (fail)
    obtain ⟨V2, hV2⟩ : ∃ V2, put5 V1 m (.int .i64 sb) (.int .i64 vnb) (.slice Pb1 kpb qb) (.bool vgb) (.string vxb) = V2 := ⟨_, rfl⟩
    rw [put5_lit, hV2]
    have hn5 := put5_new (V := V1) (u0 := .int .i64 sb) (u1 := .int .i64 vnb) (u2 := .slice Pb1 kpb qb) (u3 := .bool vgb) (u4 := .string vxb) ⟨z0, z1, z2, z3, z4⟩
    have hb5 := put5_below (V := V1) (m := m) (u0 := .int .i64 sb) (u1 := .int .i64 vnb) (u2 := .slice Pb1 kpb qb) (u3 := .bool vgb) (u4 := .string vxb)
    rw [hV2] at hn5 hb5
    obtain ⟨y0, y1, y2, y3, y4⟩ := hn5
    have bV2 : Below m wr V2 := HV1.out.1.trans hb5
    have HV2 := Lib.hid bV2
    clear hV2 hb5 bV2 x0 x1 x2 x3 x4 z0 z1 z2 z3 z4 f0 f1 f2 f3 f4 hrun
    have hB0 : Below w.heap.size wr V2 := HV2.out.mono hmsz
    have hbxV : Box base w.heap.size ab V2 ps := hbox.out.below hsz (by rw [HW0.out.2]; exact HV2.out)
    have hpV : Pa V2 0 w.heap.size Pb1 qb ⟨sb, vnb, vpb, vgb, vxb⟩ := Pa.below HPB.out.2.1.2.2.2.2.2 hB0
    have hBb : w.heap.size ≤ base := by rw [← HBS.out]; exact Nat.le_refl _
    have hsV : base ≤ V2.heap.size := Nat.le_trans hbs HV2.out.size
    have hps : ps.length ≤ 1024 := by have h1 := hT.out.2.2.2; have h2 := hT.out.2.2.1.ri; have h3 := hT.out.2.2.1.rj; have h4 := HV.out.2.2.1; have h5 := HV.out.2.2.2.1; omega
    by_cases hdd : 0 < ps.length ∧ (ps.getD (ps.length - 1) z0).1.s = sb ∧ (ps.getD (ps.length - 1) z0).1.n = vnb
    ·have HD := Lib.hid hdd
     have hK := keep_old base w.heap.size ab Pb1 qb kpb sb vnb vpb vgb vxb HPB.out.1 ps V2 (Nat.le_trans hBb hsV) hbxV hpV hps hdd.1 hdd.2
     have hB4 := Nat.le_trans hBb hsV
     have HBX := Lib.hid hbxV
     clear hbxV hpV hps hdd
     by_cases heq : (ps.getD (ps.length - 1) z0).1 = (⟨sb, vnb, vpb, vgb, vxb⟩ : Vr)
     ·rw [decide_eq_true heq] at hK
      have HIN : Hid ((⟨sb, vnb, vpb, vgb, vxb⟩ : Vr) ∈ ps.map Prod.fst) := Lib.hid (by rw [← heq]; exact last_mem HD.out.1)
      clear heq
      go_wp2_with fail
      refine Calls.mono hK ?_
      rintro e w4 ⟨rfl, hb4⟩
      have H4 := Lib.hid hb4
      clear hK hb4
      go_wp2_with fail
      exact ⟨going_b_old hT.out HV.out.2.2.2.2.2 HL.out.1 HL.out.2 HIN.out (HTX.out wr 0 w.heap.size _ lb HPB.out.2.2.2 hvb.out) hva.out (HBX.out.below hB4 H4.out) hbel.out (hB0.trans (H4.out.mono hB4)) hkx hca (Nat.le_trans hsV H4.out.size), by simp only [lenV]; omega⟩
     ·rw [decide_eq_false heq] at hK
      have HTW : Hid (Twin a b) := Lib.hid (tog_twin hT.out.2.2.1 HV.out.2.2.2.2.2 HL.out.2 (last_mem HD.out.1) HD.out.2 heq)
      clear heq
      go_wp2_with fail
      refine Calls.mono hK ?_
      rintro e w4 ⟨rfl, hb4⟩
      have H4 := Lib.hid hb4
      clear hK hb4
      go_wp2_with fail
      go_ret2
      exact .inr ⟨rfl, (hbel.out.trans hB0).trans (H4.out.mono hB4), HTW⟩
    ·have HN := Lib.hid hdd
     have HK := Lib.hid (fun hl => keep_new base w.heap.size ab Pb1 qb kpb sb vnb vpb vgb vxb HPB.out.1 ps V2 hbab hBb hsV hbxV hpV hps hl)
     have hK := HK.out (fun h0 hs => HN.out ⟨h0, hs⟩)
     clear HK hbxV hpV hps hdd
     go_wp2_with fail
     refine Calls.mono hK ?_
     rintro e w4 ⟨rfl, hbx4, hb4⟩
     have H4 := Lib.hid (And.intro hbx4 hb4)
     clear hK hbx4 hb4
     go_wp2_with fail
     exact ⟨going_b hT.out HV.out.2.2.2.2.2 HL.out.1 HL.out.2 HLE.out (step_b_new hT.out.2.2.1 HL.out.2 (fun h0 hs => HN.out ⟨h0, hs⟩)) (HTX.out wr 0 w.heap.size _ lb HPB.out.2.2.2 hvb.out) hva.out H4.out.1 hbel.out (hB0.trans (H4.out.2.mono hBb)) hkx hca (Nat.le_trans hsV H4.out.2.size), by simp only [lenV]; omega⟩

  ·obtain ⟨ka, rfl⟩ : ∃ ka, na = ka + 1 := ⟨na - 1, by have := hT.out.1; simp at this; omega⟩
   have hka : la.length = ka := by have := hT.out.1; simpa using this
   obtain ⟨pa, offa, Pa1, qa, rfl, hpa, hxa⟩ := vs_head hva.out
   have htl := vs_tail hva.out
   obtain ⟨sa, vna, vpa, vga, vxa⟩ := xa
   obtain ⟨kpa, hkpa⟩ : ∃ kpa, vpa.length = kpa := ⟨_, rfl⟩
   have HPA := Lib.hid (And.intro hkpa (And.intro hxa (And.intro htl hka)))
   have e1 : (0 : Int) < ((ka : Int) + 1) := by omega
   have e2a : (((ka : Int) + 1) == 0) = false := by simp; omega
   have e3a : decide ((0 : Int) < ((ka : Int) + 1)) = true := decide_eq_true (by omega)
   have e4a : ¬ ((ka : Int) + 1 = 0) := by omega
   clear hkpa hxa htl hka
   rcases lb with _ | ⟨xb, lb⟩
   ·obtain rfl : nb = 0 := by have := hT.out.2.1; simpa using this.symm
    have HLE : Hid (∀ z ∈ ([] : List Vr), dlt ⟨sa, vna, vpa, vga, vxa⟩ z ∨ same ⟨sa, vna, vpa, vga, vxa⟩ z) := Lib.hid (by simp)
    go_wp2_with fail
    rw [HW0.out.1]
    go_quiet (fail)
    obtain ⟨V1, hV1⟩ : ∃ V1, W0.drewN nq = V1 := ⟨_, rfl⟩
    have hB1 : Below W0.heap.size W0 V1 := by rw [← hV1]; exact below_drewN _ _ _
    rw [hV1, HW0.out.2]
    clear hV1
    obtain ⟨⟨zz0, zz1, zz2, zz3, zz4⟩, zf, lm, bW0⟩ := HZ.out
    have z0 := (hB1.cell (p := ⟨m, 0, none⟩) lm).trans zz0
    have z1 := (hB1.cell (p := ⟨m, 1, none⟩) lm).trans zz1
    have z2 := (hB1.cell (p := ⟨m, 2, none⟩) lm).trans zz2
    have z3 := (hB1.cell (p := ⟨m, 3, none⟩) lm).trans zz3
    have z4 := (hB1.cell (p := ⟨m, 4, none⟩) lm).trans zz4
    have bV : Below m wr V1 := by have h := bW0.trans (hB1.mono bW0.size); rwa [HW0.out.2] at h
    have fV : ∀ r, V1.frozen? ⟨m, r, none⟩ = false := fun r => (hB1.frozen (p := ⟨m, r, none⟩) lm).trans (zf r)
    have f0 := fV 0
    have f1 := fV 1
    have f2 := fV 2
    have f3 := fV 3
    have f4 := fV 4
    have lmV : m < V1.heap.size := Nat.lt_of_lt_of_le lm hB1.size
    obtain ⟨x0, x1, x2, x3, x4, _⟩ := HPA.out.2.1.keep (w' := V1) (Nat.zero_le _) hpa (fun q _ hq => bV.cell (by omega))
    simp only at x0 x1 x2 x3 x4
    rw [HPA.out.1] at x2
    have hne : pa ≠ m := by omega
    have HV1 := Lib.hid (And.intro bV lmV)
    clear zz0 zz1 zz2 zz3 zz4 zf lm bW0 bV fV lmV hB1
    obtain ⟨Ax, cx, hrun, hkx, htlx⟩ := slice_tail pa offa ka ca hca
    have HTX := Lib.hid htlx
    clear htlx
    go_wp2_with fail
    go_region_held3 (fun V => V.cell? ⟨pa, offa, none⟩ = some (.int .i64 sa) ∧ V.cell? ⟨pa, offa + 1, none⟩ = some (.int .i64 vna) ∧ V.cell? ⟨pa, offa + 2, none⟩ = some (.slice Pa1 kpa qa) ∧ V.cell? ⟨pa, offa + 3, none⟩ = some (.bool vga) ∧ V.cell? ⟨pa, offa + 4, none⟩ = some (.string vxa))
     (first | (with_reducible exact put5_far_lit hne hHeld) | (with_reducible exact put5_far_lit hne ⟨x0, x1, x2, x3, x4⟩) | (with_reducible exact five_drew ⟨x0, x1, x2, x3, x4⟩)) (fail)
    obtain ⟨V2, hV2⟩ : ∃ V2, put5 V1 m (.int .i64 sa) (.int .i64 vna) (.slice Pa1 kpa qa) (.bool vga) (.string vxa) = V2 := ⟨_, rfl⟩
    rw [put5_lit, hV2]
    have hn5 := put5_new (V := V1) (u0 := .int .i64 sa) (u1 := .int .i64 vna) (u2 := .slice Pa1 kpa qa) (u3 := .bool vga) (u4 := .string vxa) ⟨z0, z1, z2, z3, z4⟩
    have hb5 := put5_below (V := V1) (m := m) (u0 := .int .i64 sa) (u1 := .int .i64 vna) (u2 := .slice Pa1 kpa qa) (u3 := .bool vga) (u4 := .string vxa)
    rw [hV2] at hn5 hb5
    obtain ⟨y0, y1, y2, y3, y4⟩ := hn5
    have bV2 : Below m wr V2 := HV1.out.1.trans hb5
    have HV2 := Lib.hid bV2
    clear hV2 hb5 bV2 x0 x1 x2 x3 x4 z0 z1 z2 z3 z4 f0 f1 f2 f3 f4 hrun
    have hB0 : Below w.heap.size wr V2 := HV2.out.mono hmsz
    have hbxV : Box base w.heap.size ab V2 ps := hbox.out.below hsz (by rw [HW0.out.2]; exact HV2.out)
    have hpV : Pa V2 0 w.heap.size Pa1 qa ⟨sa, vna, vpa, vga, vxa⟩ := Pa.below HPA.out.2.1.2.2.2.2.2 hB0
    have hBb : w.heap.size ≤ base := by rw [← HBS.out]; exact Nat.le_refl _
    have hsV : base ≤ V2.heap.size := Nat.le_trans hbs HV2.out.size
    have hps : ps.length ≤ 1024 := by have h1 := hT.out.2.2.2; have h2 := hT.out.2.2.1.ri; have h3 := hT.out.2.2.1.rj; have h4 := HV.out.2.2.1; have h5 := HV.out.2.2.2.1; omega
    have HK := Lib.hid (fun hl => keep_new base w.heap.size ab Pa1 qa kpa sa vna vpa vga vxa HPA.out.1 ps V2 hbab hBb hsV hbxV hpV hps hl)
    have hK := HK.out (step_a_last hT.out.2.2.1 HL.out.1)
    clear HK hbxV hpV hps
    go_wp2_with fail
    refine Calls.mono hK ?_
    rintro e w4 ⟨rfl, hbx4, hb4⟩
    have H4 := Lib.hid (And.intro hbx4 hb4)
    clear hK hbx4 hb4
    go_wp2_with fail
    exact ⟨going_a hT.out HV.out.2.2.2.2.1 HV.out.2.2.2.2.2 HL.out.1 HL.out.2 HLE.out (HTX.out wr 0 w.heap.size _ la HPA.out.2.2.2 hva.out) hvb.out H4.out.1 hbel.out (hB0.trans (H4.out.2.mono hBb)) hkx hcb (Nat.le_trans hsV H4.out.2.size), by simp only [lenV]; omega⟩
   ·obtain ⟨kb, rfl⟩ : ∃ kb, nb = kb + 1 := ⟨nb - 1, by have := hT.out.2.1; simp at this; omega⟩
    have hkb : lb.length = kb := by have := hT.out.2.1; simpa using this
    obtain ⟨pb, offb, Pb1, qb, rfl, hpb, hxb⟩ := vs_head hvb.out
    have htl := vs_tail hvb.out
    obtain ⟨sb, vnb, vpb, vgb, vxb⟩ := xb
    obtain ⟨kpb, hkpb⟩ : ∃ kpb, vpb.length = kpb := ⟨_, rfl⟩
    have HPB := Lib.hid (And.intro hkpb (And.intro hxb (And.intro htl hkb)))
    have e1 : (0 : Int) < ((kb : Int) + 1) := by omega
    have e2b : (((kb : Int) + 1) == 0) = false := by simp; omega
    have e3b : decide ((0 : Int) < ((kb : Int) + 1)) = true := decide_eq_true (by omega)
    have e4b : ¬ ((kb : Int) + 1 = 0) := by omega
    clear hkpb hxb htl hkb
    have hcl := cmpD_le sa vna sb vnb
    obtain ⟨q, hq⟩ : ∃ q, cmpD sa vna sb vnb = q := ⟨_, rfl⟩
    rw [hq] at hcl
    have HQ : Hid ((q ≤ 0 → ∀ z ∈ (⟨sb, vnb, vpb, vgb, vxb⟩ :: lb : List Vr), dlt ⟨sa, vna, vpa, vga, vxa⟩ z ∨ same ⟨sa, vna, vpa, vga, vxa⟩ z) ∧ (¬ q ≤ 0 → ∀ z ∈ (⟨sa, vna, vpa, vga, vxa⟩ :: la : List Vr), dlt ⟨sb, vnb, vpb, vgb, vxb⟩ z)) := Lib.hid (both_heads hcl (by have := rise_drop HV.out.2.2.2.2.1 i; rwa [HL.out.1] at this) (by have := rise_drop HV.out.2.2.2.2.2 j; rwa [HL.out.2] at this))
    have H2 : Hid (∀ V, Calls Tryz.prog 95 #[.agg #[.int .i64 sa, .int .i64 vna], .agg #[.int .i64 sb, .int .i64 vnb]] V fun e w' => e = .returned (.int .i64 q) ∧ Below V.heap.size V w') := Lib.hid fun V => by rw [← hq]; exact compare_any sa vna sb vnb V
    clear hcl hq
    have hst : W0.cell? ⟨pa, offa, none⟩ = some (.int .i64 sa) ∧ W0.cell? ⟨pa, offa + 1, none⟩ = some (.int .i64 vna) ∧ W0.cell? ⟨pb, offb, none⟩ = some (.int .i64 sb) ∧ W0.cell? ⟨pb, offb + 1, none⟩ = some (.int .i64 vnb) ∧ Below W0.heap.size W0 W0 :=
     have b0 := HZ.out.2.2.2
     ⟨(b0.cell (p := ⟨pa, offa, none⟩) (by simp only; omega)).trans HPA.out.2.1.1, (b0.cell (p := ⟨pa, offa + 1, none⟩) (by simp only; omega)).trans HPA.out.2.1.2.1, (b0.cell (p := ⟨pb, offb, none⟩) (by simp only; omega)).trans HPB.out.2.1.1, (b0.cell (p := ⟨pb, offb + 1, none⟩) (by simp only; omega)).trans HPB.out.2.1.2.1, Below.refl _ _⟩
    have lpa : pa < W0.heap.size := by have := HZ.out.2.2.1; omega
    have lpb : pb < W0.heap.size := by have := HZ.out.2.2.1; omega
    have hst' := two_drew hst
    by_cases hq0 : q ≤ 0
    ·have g5 : decide (q ≤ 0) = true := decide_eq_true hq0
     have HLE : Hid (∀ z ∈ (⟨sb, vnb, vpb, vgb, vxb⟩ :: lb : List Vr), dlt ⟨sa, vna, vpa, vga, vxa⟩ z ∨ same ⟨sa, vna, vpa, vga, vxa⟩ z) := Lib.hid (HQ.out.1 hq0)
     clear hq0
     go_wp2_with fail
     rw [HW0.out.1, HW0.out.2]
     go_region_held3 (fun V => V.cell? ⟨pa, offa, none⟩ = some (.int .i64 sa) ∧ V.cell? ⟨pa, offa + 1, none⟩ = some (.int .i64 vna) ∧ V.cell? ⟨pb, offb, none⟩ = some (.int .i64 sb) ∧ V.cell? ⟨pb, offb + 1, none⟩ = some (.int .i64 vnb) ∧ Below W0.heap.size W0 V) (first | exact hst' | exact two_keep lpa lpb (by assumption) (by assumption)) (first | (go_at_call 95; refine (H2.out _).mono ?_; rintro e V1 ⟨rfl, b1⟩))
     have hB1 : Below W0.heap.size W0 V1 := (Below.refl _ _).drew.trans b1
     clear hst hst' lpa lpb b1
     obtain ⟨⟨zz0, zz1, zz2, zz3, zz4⟩, zf, lm, bW0⟩ := HZ.out
     have z0 := (hB1.cell (p := ⟨m, 0, none⟩) lm).trans zz0
     have z1 := (hB1.cell (p := ⟨m, 1, none⟩) lm).trans zz1
     have z2 := (hB1.cell (p := ⟨m, 2, none⟩) lm).trans zz2
     have z3 := (hB1.cell (p := ⟨m, 3, none⟩) lm).trans zz3
     have z4 := (hB1.cell (p := ⟨m, 4, none⟩) lm).trans zz4
     have bV : Below m wr V1 := by have h := bW0.trans (hB1.mono bW0.size); rwa [HW0.out.2] at h
     have fV : ∀ r, V1.frozen? ⟨m, r, none⟩ = false := fun r => (hB1.frozen (p := ⟨m, r, none⟩) lm).trans (zf r)
     have f0 := fV 0
     have f1 := fV 1
     have f2 := fV 2
     have f3 := fV 3
     have f4 := fV 4
     have lmV : m < V1.heap.size := Nat.lt_of_lt_of_le lm hB1.size
     obtain ⟨x0, x1, x2, x3, x4, _⟩ := HPA.out.2.1.keep (w' := V1) (Nat.zero_le _) hpa (fun q _ hq => bV.cell (by omega))
     simp only at x0 x1 x2 x3 x4
     rw [HPA.out.1] at x2
     have hne : pa ≠ m := by omega
     have HV1 := Lib.hid (And.intro bV lmV)
     clear zz0 zz1 zz2 zz3 zz4 zf lm bW0 bV fV lmV hB1
     obtain ⟨Ax, cx, hrun, hkx, htlx⟩ := slice_tail pa offa ka ca hca
     have HTX := Lib.hid htlx
     clear htlx
     go_wp2_with fail
     go_region_held3 (fun V => V.cell? ⟨pa, offa, none⟩ = some (.int .i64 sa) ∧ V.cell? ⟨pa, offa + 1, none⟩ = some (.int .i64 vna) ∧ V.cell? ⟨pa, offa + 2, none⟩ = some (.slice Pa1 kpa qa) ∧ V.cell? ⟨pa, offa + 3, none⟩ = some (.bool vga) ∧ V.cell? ⟨pa, offa + 4, none⟩ = some (.string vxa))
      (first | (with_reducible exact put5_far_lit hne hHeld) | (with_reducible exact put5_far_lit hne ⟨x0, x1, x2, x3, x4⟩) | (with_reducible exact five_drew ⟨x0, x1, x2, x3, x4⟩)) (fail)
     obtain ⟨V2, hV2⟩ : ∃ V2, put5 V1 m (.int .i64 sa) (.int .i64 vna) (.slice Pa1 kpa qa) (.bool vga) (.string vxa) = V2 := ⟨_, rfl⟩
     rw [put5_lit, hV2]
     have hn5 := put5_new (V := V1) (u0 := .int .i64 sa) (u1 := .int .i64 vna) (u2 := .slice Pa1 kpa qa) (u3 := .bool vga) (u4 := .string vxa) ⟨z0, z1, z2, z3, z4⟩
     have hb5 := put5_below (V := V1) (m := m) (u0 := .int .i64 sa) (u1 := .int .i64 vna) (u2 := .slice Pa1 kpa qa) (u3 := .bool vga) (u4 := .string vxa)
     rw [hV2] at hn5 hb5
     obtain ⟨y0, y1, y2, y3, y4⟩ := hn5
     have bV2 : Below m wr V2 := HV1.out.1.trans hb5
     have HV2 := Lib.hid bV2
     clear hV2 hb5 bV2 x0 x1 x2 x3 x4 z0 z1 z2 z3 z4 f0 f1 f2 f3 f4 hrun
     have hB0 : Below w.heap.size wr V2 := HV2.out.mono hmsz
     have hbxV : Box base w.heap.size ab V2 ps := hbox.out.below hsz (by rw [HW0.out.2]; exact HV2.out)
     have hpV : Pa V2 0 w.heap.size Pa1 qa ⟨sa, vna, vpa, vga, vxa⟩ := Pa.below HPA.out.2.1.2.2.2.2.2 hB0
     have hBb : w.heap.size ≤ base := by rw [← HBS.out]; exact Nat.le_refl _
     have hsV : base ≤ V2.heap.size := Nat.le_trans hbs HV2.out.size
     have hps : ps.length ≤ 1024 := by have h1 := hT.out.2.2.2; have h2 := hT.out.2.2.1.ri; have h3 := hT.out.2.2.1.rj; have h4 := HV.out.2.2.1; have h5 := HV.out.2.2.2.1; omega
     have HK := Lib.hid (fun hl => keep_new base w.heap.size ab Pa1 qa kpa sa vna vpa vga vxa HPA.out.1 ps V2 hbab hBb hsV hbxV hpV hps hl)
     have hK := HK.out (step_a_last hT.out.2.2.1 HL.out.1)
     clear HK hbxV hpV hps
     go_wp2_with fail
     refine Calls.mono hK ?_
     rintro e w4 ⟨rfl, hbx4, hb4⟩
     have H4 := Lib.hid (And.intro hbx4 hb4)
     clear hK hbx4 hb4
     go_wp2_with fail
     exact ⟨going_a hT.out HV.out.2.2.2.2.1 HV.out.2.2.2.2.2 HL.out.1 HL.out.2 HLE.out (HTX.out wr 0 w.heap.size _ la HPA.out.2.2.2 hva.out) hvb.out H4.out.1 hbel.out (hB0.trans (H4.out.2.mono hBb)) hkx hcb (Nat.le_trans hsV H4.out.2.size), by simp only [lenV]; omega⟩
    ·have g5 : decide (q ≤ 0) = false := decide_eq_false hq0
     have HLE : Hid (∀ z ∈ (⟨sa, vna, vpa, vga, vxa⟩ :: la : List Vr), dlt ⟨sb, vnb, vpb, vgb, vxb⟩ z) := Lib.hid (HQ.out.2 hq0)
     clear hq0
     go_wp2_with fail
     rw [HW0.out.1, HW0.out.2]
     go_region_held3 (fun V => V.cell? ⟨pa, offa, none⟩ = some (.int .i64 sa) ∧ V.cell? ⟨pa, offa + 1, none⟩ = some (.int .i64 vna) ∧ V.cell? ⟨pb, offb, none⟩ = some (.int .i64 sb) ∧ V.cell? ⟨pb, offb + 1, none⟩ = some (.int .i64 vnb) ∧ Below W0.heap.size W0 V) (first | exact hst' | exact two_keep lpa lpb (by assumption) (by assumption)) (first | (go_at_call 95; refine (H2.out _).mono ?_; rintro e V1 ⟨rfl, b1⟩))
     have hB1 : Below W0.heap.size W0 V1 := (Below.refl _ _).drew.trans b1
     clear hst hst' lpa lpb b1
     obtain ⟨⟨zz0, zz1, zz2, zz3, zz4⟩, zf, lm, bW0⟩ := HZ.out
     have z0 := (hB1.cell (p := ⟨m, 0, none⟩) lm).trans zz0
     have z1 := (hB1.cell (p := ⟨m, 1, none⟩) lm).trans zz1
     have z2 := (hB1.cell (p := ⟨m, 2, none⟩) lm).trans zz2
     have z3 := (hB1.cell (p := ⟨m, 3, none⟩) lm).trans zz3
     have z4 := (hB1.cell (p := ⟨m, 4, none⟩) lm).trans zz4
     have bV : Below m wr V1 := by have h := bW0.trans (hB1.mono bW0.size); rwa [HW0.out.2] at h
     have fV : ∀ r, V1.frozen? ⟨m, r, none⟩ = false := fun r => (hB1.frozen (p := ⟨m, r, none⟩) lm).trans (zf r)
     have f0 := fV 0
     have f1 := fV 1
     have f2 := fV 2
     have f3 := fV 3
     have f4 := fV 4
     have lmV : m < V1.heap.size := Nat.lt_of_lt_of_le lm hB1.size
     obtain ⟨x0, x1, x2, x3, x4, _⟩ := HPB.out.2.1.keep (w' := V1) (Nat.zero_le _) hpb (fun q _ hq => bV.cell (by omega))
     simp only at x0 x1 x2 x3 x4
     rw [HPB.out.1] at x2
     have hne : pb ≠ m := by omega
     have HV1 := Lib.hid (And.intro bV lmV)
     clear zz0 zz1 zz2 zz3 zz4 zf lm bW0 bV fV lmV hB1
     obtain ⟨Ax, cx, hrun, hkx, htlx⟩ := slice_tail pb offb kb cb hcb
     have HTX := Lib.hid htlx
     clear htlx
     go_wp2_with fail
     go_region_held3 (fun V => V.cell? ⟨pb, offb, none⟩ = some (.int .i64 sb) ∧ V.cell? ⟨pb, offb + 1, none⟩ = some (.int .i64 vnb) ∧ V.cell? ⟨pb, offb + 2, none⟩ = some (.slice Pb1 kpb qb) ∧ V.cell? ⟨pb, offb + 3, none⟩ = some (.bool vgb) ∧ V.cell? ⟨pb, offb + 4, none⟩ = some (.string vxb))
      (first | (with_reducible exact put5_far_lit hne hHeld) | (with_reducible exact put5_far_lit hne ⟨x0, x1, x2, x3, x4⟩) | (with_reducible exact five_drew ⟨x0, x1, x2, x3, x4⟩)) (fail)
     obtain ⟨V2, hV2⟩ : ∃ V2, put5 V1 m (.int .i64 sb) (.int .i64 vnb) (.slice Pb1 kpb qb) (.bool vgb) (.string vxb) = V2 := ⟨_, rfl⟩
     rw [put5_lit, hV2]
     have hn5 := put5_new (V := V1) (u0 := .int .i64 sb) (u1 := .int .i64 vnb) (u2 := .slice Pb1 kpb qb) (u3 := .bool vgb) (u4 := .string vxb) ⟨z0, z1, z2, z3, z4⟩
     have hb5 := put5_below (V := V1) (m := m) (u0 := .int .i64 sb) (u1 := .int .i64 vnb) (u2 := .slice Pb1 kpb qb) (u3 := .bool vgb) (u4 := .string vxb)
     rw [hV2] at hn5 hb5
     obtain ⟨y0, y1, y2, y3, y4⟩ := hn5
     have bV2 : Below m wr V2 := HV1.out.1.trans hb5
     have HV2 := Lib.hid bV2
     clear hV2 hb5 bV2 x0 x1 x2 x3 x4 z0 z1 z2 z3 z4 f0 f1 f2 f3 f4 hrun
     have hB0 : Below w.heap.size wr V2 := HV2.out.mono hmsz
     have hbxV : Box base w.heap.size ab V2 ps := hbox.out.below hsz (by rw [HW0.out.2]; exact HV2.out)
     have hpV : Pa V2 0 w.heap.size Pb1 qb ⟨sb, vnb, vpb, vgb, vxb⟩ := Pa.below HPB.out.2.1.2.2.2.2.2 hB0
     have hBb : w.heap.size ≤ base := by rw [← HBS.out]; exact Nat.le_refl _
     have hsV : base ≤ V2.heap.size := Nat.le_trans hbs HV2.out.size
     have hps : ps.length ≤ 1024 := by have h1 := hT.out.2.2.2; have h2 := hT.out.2.2.1.ri; have h3 := hT.out.2.2.1.rj; have h4 := HV.out.2.2.1; have h5 := HV.out.2.2.2.1; omega
     by_cases hdd : 0 < ps.length ∧ (ps.getD (ps.length - 1) z0).1.s = sb ∧ (ps.getD (ps.length - 1) z0).1.n = vnb
     ·have HD := Lib.hid hdd
      have hK := keep_old base w.heap.size ab Pb1 qb kpb sb vnb vpb vgb vxb HPB.out.1 ps V2 (Nat.le_trans hBb hsV) hbxV hpV hps hdd.1 hdd.2
      have hB4 := Nat.le_trans hBb hsV
      have HBX := Lib.hid hbxV
      clear hbxV hpV hps hdd
      by_cases heq : (ps.getD (ps.length - 1) z0).1 = (⟨sb, vnb, vpb, vgb, vxb⟩ : Vr)
      ·rw [decide_eq_true heq] at hK
       have HIN : Hid ((⟨sb, vnb, vpb, vgb, vxb⟩ : Vr) ∈ ps.map Prod.fst) := Lib.hid (by rw [← heq]; exact last_mem HD.out.1)
       clear heq
       go_wp2_with fail
       refine Calls.mono hK ?_
       rintro e w4 ⟨rfl, hb4⟩
       have H4 := Lib.hid hb4
       clear hK hb4
       go_wp2_with fail
       exact ⟨going_b_old hT.out HV.out.2.2.2.2.2 HL.out.1 HL.out.2 HIN.out (HTX.out wr 0 w.heap.size _ lb HPB.out.2.2.2 hvb.out) hva.out (HBX.out.below hB4 H4.out) hbel.out (hB0.trans (H4.out.mono hB4)) hkx hca (Nat.le_trans hsV H4.out.size), by simp only [lenV]; omega⟩
      ·rw [decide_eq_false heq] at hK
       have HTW : Hid (Twin a b) := Lib.hid (tog_twin hT.out.2.2.1 HV.out.2.2.2.2.2 HL.out.2 (last_mem HD.out.1) HD.out.2 heq)
       clear heq
       go_wp2_with fail
       refine Calls.mono hK ?_
       rintro e w4 ⟨rfl, hb4⟩
       have H4 := Lib.hid hb4
       clear hK hb4
       go_wp2_with fail
       go_ret2
       exact .inr ⟨rfl, (hbel.out.trans hB0).trans (H4.out.mono hB4), HTW⟩
     ·have HN := Lib.hid hdd
      have HK := Lib.hid (fun hl => keep_new base w.heap.size ab Pb1 qb kpb sb vnb vpb vgb vxb HPB.out.1 ps V2 hbab hBb hsV hbxV hpV hps hl)
      have hK := HK.out (fun h0 hs => HN.out ⟨h0, hs⟩)
      clear HK hbxV hpV hps hdd
      go_wp2_with fail
      refine Calls.mono hK ?_
      rintro e w4 ⟨rfl, hbx4, hb4⟩
      have H4 := Lib.hid (And.intro hbx4 hb4)
      clear hK hbx4 hb4
      go_wp2_with fail
      exact ⟨going_b hT.out HV.out.2.2.2.2.2 HL.out.1 HL.out.2 HLE.out (step_b_new hT.out.2.2.1 HL.out.2 (fun h0 hs => HN.out ⟨h0, hs⟩)) (HTX.out wr 0 w.heap.size _ lb HPB.out.2.2.2 hvb.out) hva.out H4.out.1 hbel.out (hB0.trans (H4.out.2.mono hBb)) hkx hca (Nat.le_trans hsV H4.out.2.size), by simp only [lenV]; omega⟩
end Vers
end Go.Proofs.YtekhaejhmlebbaaGreat
