/-
  vers.together tells all versions of both sets by rising dots, each once, or that two unlike ones have one dot.
-/
import Derived.Test.YtbaclinjimfncaaGreatGSame
namespace Go.Proofs.YtbaclinjimfncaaGreat
namespace Vers
open Go.RowKit Span
attribute [local go_sem ↓] Go.wp_at_zero Go.wp_at_succ

def lenV : Value → Nat | .slice _ n _ => n | _ => 0

/-- What together tells. -/
def Together (a b : List Vr) (w : World) (e : Ending) (w' : World) : Prop :=
  (∃ A c ps, e = .returned (.tuple #[.slice A ps.length c, .int .i64 0]) ∧ OwnVs w.heap.size 0 w.heap.size w' (.slice A ps.length c) ps ∧ ps.length ≤ a.length + b.length ∧ Below w.heap.size w w' ∧ Hid ((ps.map Prod.fst).Pairwise dlt ∧ (∀ v, v ∈ ps.map Prod.fst ↔ v ∈ a ∨ v ∈ b) ∧ ¬ Twin a b)) ∨
  (e = .returned (.tuple #[.slice none 0 0, .int .i64 50]) ∧ Below w.heap.size w w' ∧ Hid (Twin a b))

/-- How far both sets have been gone through. -/
def Going (a b : List Vr) (base ab : Nat) (w : World) (av bv : Value) (wr : World) : Prop :=
  ∃ (i j na nb : Nat) (Aa Ab : Option Addr) (ca cb : Nat) (ps : List Pv), av = .slice Aa na ca ∧ bv = .slice Ab nb cb ∧ Hid ((a.drop i).length = na ∧ (b.drop j).length = nb ∧ Tog a b i j (ps.map Prod.fst) ∧ ps.length ≤ i + j) ∧ na ≤ ca ∧ nb ≤ cb ∧
    Hid (Vs wr 0 w.heap.size Aa (a.drop i)) ∧ Hid (Vs wr 0 w.heap.size Ab (b.drop j)) ∧ Hid (Box base w.heap.size ab wr ps) ∧ Hid (Below w.heap.size w wr) ∧ base ≤ wr.heap.size

theorem two_keep {W0 V V' : World} {p o p' o' : Nat} {x0 x1 y0 y1 : Option Value} (hp : p < W0.heap.size) (hp' : p' < W0.heap.size) (hb : Below V.heap.size V V')
    (h : V.cell? ⟨p, o, none⟩ = x0 ∧ V.cell? ⟨p, o + 1, none⟩ = x1 ∧ V.cell? ⟨p', o', none⟩ = y0 ∧ V.cell? ⟨p', o' + 1, none⟩ = y1 ∧ Below W0.heap.size W0 V) :
    V'.cell? ⟨p, o, none⟩ = x0 ∧ V'.cell? ⟨p, o + 1, none⟩ = x1 ∧ V'.cell? ⟨p', o', none⟩ = y0 ∧ V'.cell? ⟨p', o' + 1, none⟩ = y1 ∧ Below W0.heap.size W0 V' := by
  have hs := h.2.2.2.2.size
  have key : ∀ a : Addr, a.block < W0.heap.size → V'.cell? a = V.cell? a := fun a ha => hb.cell (by omega)
  exact ⟨(key ⟨p, o, none⟩ hp).trans h.1, (key ⟨p, o + 1, none⟩ hp).trans h.2.1, (key ⟨p', o', none⟩ hp').trans h.2.2.1, (key ⟨p', o' + 1, none⟩ hp').trans h.2.2.2.1, h.2.2.2.2.trans (hb.mono hs)⟩
theorem two_drew {W0 V : World} {p o p' o' : Nat} {x0 x1 y0 y1 : Option Value}
    (h : V.cell? ⟨p, o, none⟩ = x0 ∧ V.cell? ⟨p, o + 1, none⟩ = x1 ∧ V.cell? ⟨p', o', none⟩ = y0 ∧ V.cell? ⟨p', o' + 1, none⟩ = y1 ∧ Below W0.heap.size W0 V) :
    V.drew.cell? ⟨p, o, none⟩ = x0 ∧ V.drew.cell? ⟨p, o + 1, none⟩ = x1 ∧ V.drew.cell? ⟨p', o', none⟩ = y0 ∧ V.drew.cell? ⟨p', o' + 1, none⟩ = y1 ∧ Below W0.heap.size W0 V.drew := ⟨h.1, h.2.1, h.2.2.1, h.2.2.2.1, h.2.2.2.2.drew⟩
theorem both_heads {sa vna sb vnb q : Int} {vpa vpb : List Sp} {vga vgb : Bool} {vxa vxb : ByteArray} {la lb : List Vr} (hcl : q ≤ 0 ↔ sa < sb ∨ (sa = sb ∧ vna ≤ vnb)) (ha : (⟨sa, vna, vpa, vga, vxa⟩ :: la : List Vr).Pairwise dlt) (hb : (⟨sb, vnb, vpb, vgb, vxb⟩ :: lb : List Vr).Pairwise dlt) :
    (q ≤ 0 → ∀ z ∈ (⟨sb, vnb, vpb, vgb, vxb⟩ :: lb : List Vr), dlt ⟨sa, vna, vpa, vga, vxa⟩ z ∨ same ⟨sa, vna, vpa, vga, vxa⟩ z) ∧ (¬ q ≤ 0 → ∀ z ∈ (⟨sa, vna, vpa, vga, vxa⟩ :: la : List Vr), dlt ⟨sb, vnb, vpb, vgb, vxb⟩ z) := by
  rw [List.pairwise_cons] at ha hb
  constructor
  · intro h z hz
    have h1 := hcl.1 h
    rcases List.mem_cons.1 hz with rfl | hz
    · unfold dlt same; simp only; omega
    · have h2 := hb.1 z hz
      unfold dlt at h2 ⊢; unfold same; simp only at h2 ⊢; omega
  · intro h z hz
    have h1 : ¬ (sa < sb ∨ (sa = sb ∧ vna ≤ vnb)) := fun h2 => h (hcl.2 h2)
    rcases List.mem_cons.1 hz with rfl | hz
    · unfold dlt; simp only; omega
    · have h2 := ha.1 z hz
      unfold dlt at h2 ⊢; simp only at h2 ⊢; omega
theorem last_mem {ps : List Pv} (h : 0 < ps.length) : (ps.getD (ps.length - 1) z0).1 ∈ ps.map Prod.fst := by
  refine List.mem_map.2 ⟨ps.getD (ps.length - 1) z0, ?_, rfl⟩
  rw [List.getD_eq_getElem?_getD, List.getElem?_eq_getElem (by omega)]
  exact List.getElem_mem _
theorem last_map {ps : List Pv} (h : 0 < ps.length) : (ps.map Prod.fst).getD ((ps.map Prod.fst).length - 1) v0 = (ps.getD (ps.length - 1) z0).1 := by
  have h1 : ps.length - 1 < ps.length := by omega
  simp [List.getD_eq_getElem?_getD, h1]
theorem step_a_last {a b : List Vr} {i j : Nat} {ps : List Pv} (h : Tog a b i j (ps.map Prod.fst)) {x : Vr} {l : List Vr} (hx : a.drop i = x :: l) (h0 : 0 < ps.length) :
    ¬ ((ps.getD (ps.length - 1) z0).1.s = x.s ∧ (ps.getD (ps.length - 1) z0).1.n = x.n) := fun hs => dlt_irrefl (h.la _ (last_mem h0) x (by rw [hx]; simp)) hs
theorem step_b_new {a b : List Vr} {i j : Nat} {ps : List Pv} (h : Tog a b i j (ps.map Prod.fst)) {y : Vr} {l : List Vr} (hy : b.drop j = y :: l) (hn : 0 < ps.length → ¬ ((ps.getD (ps.length - 1) z0).1.s = y.s ∧ (ps.getD (ps.length - 1) z0).1.n = y.n)) :
    ∀ u ∈ ps.map Prod.fst, dlt u y := tog_new h hy fun hp => by
  rw [List.length_map] at hp
  rw [last_map hp]
  exact hn hp
theorem tog_close {a b us : List Vr} {i j : Nat} (h : Tog a b i j us) (ha : a.drop i = []) (hb : b.drop j = []) : us.Pairwise dlt ∧ (∀ v, v ∈ us ↔ v ∈ a ∨ v ∈ b) ∧ ¬ Twin a b := by
  have h1 := List.drop_eq_nil_iff.1 ha
  have h2 := List.drop_eq_nil_iff.1 hb
  have e1 : i = a.length := Nat.le_antisymm h.ri h1
  have e2 : j = b.length := Nat.le_antisymm h.rj h2
  rw [e1, e2] at h
  exact tog_end h
section
variable {a b : List Vr} {i j ka kb na nb base ab : Nat} {w wr w4 : World} {ps : List Pv} {x y : Vr} {la lb : List Vr} {Aa Ab Ax P : Option Addr} {ca cb cx q : Nat}
theorem going_a (hT : (x :: la).length = ka + 1 ∧ lb.length = nb ∧ Tog a b i j (ps.map Prod.fst) ∧ ps.length ≤ i + j) (ha : a.Pairwise dlt) (hb : b.Pairwise dlt) (hx : a.drop i = x :: la) (hlb : b.drop j = lb) (hle : ∀ z ∈ lb, dlt x z ∨ same x z)
    (ht : Vs wr 0 w.heap.size Ax la) (hvb : Vs wr 0 w.heap.size Ab lb) (hbx : Box base w.heap.size ab w4 (ps ++ [(x, P, q)])) (hbel : Below w.heap.size w wr) (hb4 : Below w.heap.size wr w4) (hkx : ka ≤ cx) (hcb : nb ≤ cb) (hs : base ≤ w4.heap.size) : Going a b base ab w (.slice Ax ka cx) (.slice Ab nb cb) w4 := by
  obtain ⟨hi, _, hd⟩ := drop_split hx
  refine ⟨i + 1, j, ka, nb, Ax, Ab, cx, cb, ps ++ [(x, P, q)], rfl, rfl, Lib.hid ⟨?_, ?_, ?_, ?_⟩, hkx, hcb, Lib.hid ?_, Lib.hid ?_, Lib.hid hbx, Lib.hid (hbel.trans hb4), hs⟩
  · rw [hd]; simpa using hT.1
  · rw [hlb]; exact hT.2.1
  · rw [List.map_append]
    exact tog_a hT.2.2.1 ha hb hx (by rw [hlb]; exact hle)
  · have := hT.2.2.2
    simp; omega
  · rw [hd]; exact ht.below hb4
  · rw [hlb]; exact hvb.below hb4
theorem going_b (hT : la.length = na ∧ (y :: lb).length = kb + 1 ∧ Tog a b i j (ps.map Prod.fst) ∧ ps.length ≤ i + j) (hb : b.Pairwise dlt) (hla : a.drop i = la) (hy : b.drop j = y :: lb) (hlt : ∀ z ∈ la, dlt y z) (hnew : ∀ u ∈ ps.map Prod.fst, dlt u y)
    (ht : Vs wr 0 w.heap.size Ax lb) (hva : Vs wr 0 w.heap.size Aa la) (hbx : Box base w.heap.size ab w4 (ps ++ [(y, P, q)])) (hbel : Below w.heap.size w wr) (hb4 : Below w.heap.size wr w4) (hkx : kb ≤ cx) (hca : na ≤ ca) (hs : base ≤ w4.heap.size) : Going a b base ab w (.slice Aa na ca) (.slice Ax kb cx) w4 := by
  obtain ⟨hi, _, hd⟩ := drop_split hy
  refine ⟨i, j + 1, na, kb, Aa, Ax, ca, cx, ps ++ [(y, P, q)], rfl, rfl, Lib.hid ⟨?_, ?_, ?_, ?_⟩, hca, hkx, Lib.hid ?_, Lib.hid ?_, Lib.hid hbx, Lib.hid (hbel.trans hb4), hs⟩
  · rw [hla]; exact hT.1
  · rw [hd]; simpa using hT.2.1
  · rw [List.map_append]
    exact tog_b hT.2.2.1 hb hy (by rw [hla]; exact hlt) hnew
  · have := hT.2.2.2
    simp; omega
  · rw [hla]; exact hva.below hb4
  · rw [hd]; exact ht.below hb4
theorem going_b_old (hT : la.length = na ∧ (y :: lb).length = kb + 1 ∧ Tog a b i j (ps.map Prod.fst) ∧ ps.length ≤ i + j) (hb : b.Pairwise dlt) (hla : a.drop i = la) (hy : b.drop j = y :: lb) (hin : y ∈ ps.map Prod.fst)
    (ht : Vs wr 0 w.heap.size Ax lb) (hva : Vs wr 0 w.heap.size Aa la) (hbx : Box base w.heap.size ab w4 ps) (hbel : Below w.heap.size w wr) (hb4 : Below w.heap.size wr w4) (hkx : kb ≤ cx) (hca : na ≤ ca) (hs : base ≤ w4.heap.size) : Going a b base ab w (.slice Aa na ca) (.slice Ax kb cx) w4 := by
  obtain ⟨hi, _, hd⟩ := drop_split hy
  refine ⟨i, j + 1, na, kb, Aa, Ax, ca, cx, ps, rfl, rfl, Lib.hid ⟨?_, ?_, ?_, ?_⟩, hca, hkx, Lib.hid ?_, Lib.hid ?_, Lib.hid hbx, Lib.hid (hbel.trans hb4), hs⟩
  · rw [hla]; exact hT.1
  · rw [hd]; simpa using hT.2.1
  · exact tog_again hT.2.2.1 hb hy hin
  · have := hT.2.2.2
    omega
  · rw [hla]; exact hva.below hb4
  · rw [hd]; exact ht.below hb4
end

end Vers
end Go.Proofs.YtbaclinjimfncaaGreat
