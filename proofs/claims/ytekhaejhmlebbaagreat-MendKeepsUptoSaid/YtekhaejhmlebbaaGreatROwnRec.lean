/-
 firthref10.Own: a record in memory of its own.
-/
import Derived.Test.YtekhaejhmlebbaaGreatRGFill
import Derived.Test.YtekhaejhmlebbaaGreatRGPut
namespace Go.Proofs.YtekhaejhmlebbaaGreat
namespace Own
open Go.RowKit Vers Span Blk
attribute [local go_sem ↓] Go.wp_at_zero Go.wp_at_succ

def NewRr (key : ByteArray) (l : List Vr) (m : Nat) (w : World) (e : Ending) (w' : World) : Prop := ∃ A1 c1 ps, e = .returned (.agg #[.string key, .slice A1 m c1]) ∧ Hid (ps.map Prod.fst = l ∧ Code.RowV w.heap.size w'.heap.size w' (.slice A1 m c1) ps) ∧ Below w.heap.size w w'
def Copied (l : List Vr) (m ob : Nat) (key : ByteArray) (w : World) (q : Value) (wr : World) : Prop :=
 ∃ (k : Nat) (ps : List Pv) (A : Option Addr) (c : Nat), q = .int .i64 k ∧ k ≤ m ∧ Hid (ps.map Prod.fst = l.take k ∧ ps.length = k ∧ Bn ob 53 [.string key, .slice A k c] wr ∧ Code.RowV (ob + 1) wr.heap.size wr (.slice A k c) ps ∧ Below ob w wr)
set_option maxRecDepth 100000 in
set_option maxHeartbeats 2000000 in
theorem own_any (key : ByteArray) (A : Option Addr) (c m : Nat) (l : List Vr) (hm : l.length = m) (hbig : m ≤ 2199023255488) (hp : ∀ v ∈ l, v.past.length ≤ 5864062014800) (w : World) (hv : Vs w 0 w.heap.size A l) :
  Calls Tryz.prog 30 #[.agg #[.string key, .slice A m c]] w (NewRr key l m w) := by
 obtain ⟨i0, hi0, hz0, hz1, hz2⟩ := info_span
 obtain ⟨j0, hj0, hy0, hy1, hy2⟩ := info_parts info_ver
 have HI := Lib.hid (And.intro (And.intro hi0 (And.intro hz0 (And.intro hz1 hz2))) (And.intro hj0 (And.intro hy0 (And.intro hy1 hy2))))
 obtain ⟨U, hU⟩ : ∃ U, w.alloc (.cells #[.string key, .slice A m c] 53) = U := ⟨_, rfl⟩
 have bU : Below w.heap.size w U := by rw [← hU]; exact (Below.refl _ w).alloc (Nat.le_refl _) _
 have sU : U.heap.size = w.heap.size + 1 := by rw [← hU]; simp
 have BU : Bn w.heap.size 53 [.string key, .slice A m c] U := by rw [← hU]; exact heap_alloc_new w _
 obtain ⟨V, hV⟩ : ∃ V, U.alloc (.cells #[.string ⟨#[]⟩, .slice none 0 0] 53) = V := ⟨_, rfl⟩
 have bV : Below U.heap.size U V := by rw [← hV]; exact (Below.refl _ U).alloc (Nat.le_refl _) _
 have BV : Bn U.heap.size 53 [.string ⟨#[]⟩, .slice none 0 0] V := by rw [← hV]; exact heap_alloc_new U _
 have sV : V.heap.size = w.heap.size + 2 := by rw [← hV]; simp [sU]
 obtain ⟨X, hX⟩ : ∃ X, V.alloc (.cells #[.string key, .slice none 0 0] 53) = X := ⟨_, rfl⟩
 have bX : Below V.heap.size V X := by rw [← hX]; exact (Below.refl _ V).alloc (Nat.le_refl _) _
 have BX : Bn V.heap.size 53 [.string key, .slice none 0 0] X := by rw [← hX]; exact heap_alloc_new V _
 have sX : X.heap.size = w.heap.size + 3 := by rw [← hX]; simp [sV]
 rw [sU] at BV
 rw [sV] at BX
 have BU' := (BU.same (bV.block _ BU.lt)).same (bX.block _ (by omega))
 have BV' := BV.same (bX.block _ (by omega))
 have bW : Below w.heap.size w X := (bU.trans (bV.mono bU.size)).trans (bX.mono (by omega))
 have x0 := (BU.same (bV.block _ BU.lt)).cell 0
 simp only [List.getElem?_cons_zero] at x0
 obtain ⟨ob, hob⟩ : ∃ ob, w.heap.size + 2 = ob := ⟨_, rfl⟩
 rw [hob] at BX
 have HB := Lib.hid (And.intro bW (And.intro BU' (And.intro BV' (And.intro hob (And.intro sX (And.intro hv hm))))))
 have HP := Lib.hid hp
 have HI0 : Hid (Copied l m ob key X (.int .i64 0) X) := Lib.hid ⟨0, [], none, 0, rfl, by omega, Lib.hid ⟨by simp, rfl, BX, Code.rowV_nil _ _ _, Below.refl _ _⟩⟩
 have HXX := Lib.hid hX
 have HOB := Lib.hid hob
 clear hX hob
 clear hv hm hp bW BU' BV' sX bX bU bV BX BV BU hi0 hz0 hz1 hz2 hj0 hy0 hy1 hy2
 go_enter Tryz.func30, Tryz.ntmps30
 go_wp2_with fail
 rw [HXX.out, HOB.out]
 go_loopw [4] (fun q wr => Copied l m ob key X q wr) (fun q _ => m - (intOf q).toNat)
 case atStart => exact HI0.out
 case round =>
  clear HI0
  obtain ⟨k, ps, Ao, co, rfl, hk, hst⟩ := hrel
  have B0 := HB.out.2.1.same (hst.out.2.2.2.2.block _ (by have := HB.out.2.2.2.1; omega))
  have c1 := B0.cell 1
  have hbw : Below w.heap.size w wr := HB.out.1.trans (hst.out.2.2.2.2.mono (by have := HB.out.2.2.2.1; omega))
  simp only [List.getElem?_cons_zero, List.getElem?_cons_succ] at c1
  by_cases hlt : k < m
  ·obtain ⟨b, off, A1, cc, rfl, _, hbB, a0, a1, a2, a3, a4, hpv⟩ := HB.out.2.2.2.2.2.1.at HB.out.2.2.2.2.2.2 hbw hlt rfl
   have hkl : k < l.length := by have := HB.out.2.2.2.2.2.2; omega
   have hmem : l.getD k v0 ∈ l := by
    rw [List.getD_eq_getElem?_getD, List.getElem?_eq_getElem hkl]
    exact List.getElem_mem _
   have hbp := HP.out _ hmem
   have HT : Hid (l.take (k + 1) = l.take k ++ [l.getD k v0]) := Lib.hid (by
    rw [List.take_succ_eq_append_getElem hkl]
    simp [List.getD_eq_getElem?_getD, hkl])
   obtain ⟨v, hvv⟩ : ∃ v, l.getD k v0 = v := ⟨_, rfl⟩
   rw [hvv] at a0 a1 a2 a3 a4 hpv hbp
   have HVV := Lib.hid hvv
   obtain ⟨s, vn, vp, vg, vx⟩ := v
   simp only at a0 a1 a2 a3 a4 hbp
   obtain ⟨kp, hkp⟩ : ∃ kp, vp.length = kp := ⟨_, rfl⟩
   rw [hkp] at a2 hbp
   have d1 : (0 : Int) ≤ (k : Int) := by omega
   have d2 : (k : Int) < (m : Int) := by omega
   obtain ⟨W1, hW1⟩ : ∃ W, wr.alloc (.cells #[.int .i64 s, .int .i64 vn, .slice A1 kp cc, .bool vg, .string vx] 59) = W := ⟨_, rfl⟩
   have b1 : Below wr.heap.size wr W1 := by rw [← hW1]; exact (Below.refl _ wr).alloc (Nat.le_refl _) _
   have B1 : Bn wr.heap.size 59 [.int .i64 s, .int .i64 vn, .slice A1 kp cc, .bool vg, .string vx] W1 := by rw [← hW1]; exact heap_alloc_new wr _
   have s1 : W1.heap.size = wr.heap.size + 1 := by rw [← hW1]; simp
   have HW1 := Lib.hid hW1
   have HU := Lib.hid (And.intro b1 (And.intro B1 s1))
   have HSS := Lib.hid (hpv.1.below (b1.mono hbw.size))
   have HK := Lib.hid (And.intro hkp hpv)
   have hszw : w.heap.size ≤ W1.heap.size := Nat.le_trans hbw.size b1.size
   have HBW := Lib.hid hbw
   clear hW1 b1 B1 s1 hkl hmem hvv hkp hpv hbw
   go_wp2_with (first
    | (at_builtin; rw [HW1.out]; refine wpList_append_ss _ rfl (.tmp 22) (.tmp 24) 57 rfl W1.heap.size 61 i0 _ 24 Tryz.underlying57 HI.out.1.1 HI.out.1.2.1 HI.out.1.2.2.1 HI.out.1.2.2.2 rfl (.slice none 0 0) 0 [] rfl (World.ownsRow_nil _ _ _ _) w.heap.size A1 kp cc vp HK.out.1 rfl HSS.out (by omega) (by omega) (Nat.le_refl _) ?_
       intro v2 w2 o2 g2 _
       rw [Nat.zero_add, List.nil_append] at o2
       obtain ⟨Ap, cp, rfl⟩ := own_form o2
       have B2 := HU.out.2.1.kept g2 (by simp [Value.ownBlock])
       have y2 := (B2.cell 2).trans rfl
       have f2 := B2.frozen 2
       have b2 : Below wr.heap.size wr w2 := HU.out.1.grown g2 HU.out.1.size (by simp [Value.ownBlock])
       have BX := B2.set 2 (.slice Ap kp cp)
       have gX := gset w2 wr.heap.size 2 (.slice Ap kp cp)
       obtain ⟨W3, hW3⟩ : ∃ W, w2.setCell ⟨wr.heap.size, 2, none⟩ (.slice Ap kp cp) = W := ⟨_, rfl⟩
       rw [hW3] at BX gX
       simp only [List.set] at BX
       have b3 : Below wr.heap.size wr W3 := b2.grown gX b2.size (fun j hj => by injection hj with hj; omega)
       have o3 := own_keep o2 fun g hg => gX.block g (o2.lt g hg).2 (fun q => by injection q with q; have := (o2.lt g hg).1; have := HU.out.2.2; omega)
       have z0 := (BX.cell 0).trans rfl
       have z1 := (BX.cell 1).trans rfl
       have z2 := (BX.cell 2).trans rfl
       have z3 := (BX.cell 3).trans rfl
       have z4 := (BX.cell 4).trans rfl
       have B3 := hst.out.2.2.1.same (b3.block _ hst.out.2.2.1.lt)
       have z5 := (B3.cell 1).trans rfl
       have hs3 := b3.size
       have H3 := Lib.hid (And.intro b3 (And.intro o3 (And.intro (own_below hst.out.2.2.2.1.1 b3 (Nat.le_refl _)) B3)))
       have HG := Lib.hid gX.size
       have hs2 := g2.size
       have HG2 := Lib.hid (Nat.le_trans hs2 gX.size)
       clear B2 b2 BX gX b3 o2 o3 g2 B3 hs2)
    | (at_builtin; refine wpList_append_v _ rfl (.tmp 29) (.tmp 31) 50 rfl (ob + 1) 59 j0 _ 64 Tryz.underlying50 HI.out.2.1 HI.out.2.2.1 HI.out.2.2.2.1 HI.out.2.2.2.2 rfl (.slice Ao k co) k ps rfl (by have h := H3.out.2.2.1; rwa [hst.out.2.1] at h) (⟨s, vn, vp, vg, vx⟩, Ap, cp) kp HK.out.1 1 rfl (by omega) (by omega) (by have := hst.out.2.2.1.lt; omega) ?_
       intro v5 w5 o5 g5 at5
       obtain ⟨A5, c5, rfl⟩ := own_form o5
       have B5 := H3.out.2.2.2.kept g5 (fun e => by have := (H3.out.2.2.1.lt ob e.symm).1; omega)
       have y5 := (B5.cell 1).trans rfl
       have f5 := B5.frozen 1
       have H5 := Lib.hid (And.intro o5 (And.intro g5 (And.intro at5 B5)))
       clear o5 g5 at5 B5))
   have gY := gset w5 ob 1 (.slice A5 (k + 1) c5)
   obtain ⟨Y, hY⟩ : ∃ Y, w5.setCell ⟨ob, 1, none⟩ (.slice A5 (k + 1) c5) = Y := ⟨_, rfl⟩
   rw [hY] at gY ⊢
   have BY := H5.out.2.2.2.set 1 (.slice A5 (k + 1) c5)
   rw [hY] at BY
   have hob : ob + 1 ≤ wr.heap.size := hst.out.2.2.1.lt
   have o3 := H3.out.2.1
   have hver : Code.VerO W3 wr.heap.size W3.heap.size (⟨s, vn, vp, vg, vx⟩, Ap, cp) := by
    have hl := own_low o3
    refine ⟨⟨own_ss (n := kp) (by rw [← HK.out.1] at o3 ⊢; exact o3), ?_, HK.out.2.2.2.1, HK.out.2.2.2.2.1, fun hp a ha => ?_⟩, ?_, fun g hg => (o3.lt g (by rw [HK.out.1] at hg; exact hg)).2⟩
    ·have := hl.1
     simp only [HK.out.1]
     exact this
    ·have := hl.2 (by have := HK.out.1; simp only at hp; omega) a ha
     have := HU.out.2.2
     omega
    ·simp only [HK.out.1]
     exact own_base o3 (by have := HU.out.2.2; omega)
   have hadd := hst.out.2.2.2.1.add (fun j _ hj => H3.out.1.block j hj) hs3 hver hob (by rw [hst.out.2.1]; exact H5.out.1) H5.out.2.1 H5.out.2.2.1
   have hrow := hadd.keep fun j h1 h2 => gY.block j h2 (by intro q; injection q with q; omega)
   have hfin : Copied l m ob key X (.int .i64 ((k + 1 : Nat) : Int)) Y := ⟨k + 1, ps ++ [(⟨s, vn, vp, vg, vx⟩, Ap, cp)], A5, c5, rfl, by omega, Lib.hid ⟨?_, ?_, by simpa using BY, hrow.more gY.size, ?_⟩⟩
   ·exact ⟨hfin, by simp only [intOf]; omega⟩
   ·rw [List.map_append, hst.out.1, HT.out, HVV.out]
    rfl
   ·rw [List.length_append, hst.out.2.1]
    rfl
   ·have h3 := hst.out.2.2.2.2.trans (H3.out.1.mono (by omega))
    have h5 := h3.grown H5.out.2.1 (by omega) fun j hj => by have := (H3.out.2.2.1.lt j hj).1; omega
    exact h5.grown gY (by have := H5.out.2.2.2.lt; omega) fun j hj => by injection hj with hj; omega
  ·obtain rfl : k = m := by omega
   have Bo := hst.out.2.2.1
   have Br := HB.out.2.2.1.same (hst.out.2.2.2.2.block _ (by have := HB.out.2.2.2.1; omega))
   have z0 := (Bo.cell 0).trans rfl
   have z1 := (Bo.cell 1).trans rfl
   have r0 := (Br.cell 0).trans rfl
   have r1 := (Br.cell 1).trans rfl
   have rf0 := Br.frozen 0
   have rf1 := Br.frozen 1
   have BY := (Br.set 0 (.string key)).set 1 (.slice Ao k co)
   have gY := grown_trans_one (gset wr (w.heap.size + 1) 0 (.string key)) (gset _ (w.heap.size + 1) 1 (.slice Ao k co))
   obtain ⟨Y, hY⟩ : ∃ Y, (wr.setCell ⟨w.heap.size + 1, 0, none⟩ (.string key)).setCell ⟨w.heap.size + 1, 1, none⟩ (.slice Ao k co) = Y := ⟨_, rfl⟩
   rw [hY] at BY gY
   simp only [List.set] at BY
   have y0 := (BY.cell 0).trans rfl
   have y1 := (BY.cell 1).trans rfl
   have hR : NewRr key l k w (.returned (.agg #[.string key, .slice Ao k co])) Y := by
    have ho := HB.out.2.2.2.1
    have hrow := (hst.out.2.2.2.1.keep fun j h1 h2 => gY.block j h2 (by intro q; injection q with q; omega)).more gY.size
    refine ⟨Ao, co, ps, rfl, Lib.hid ⟨?_, hrow.less (by omega)⟩, hbw.grown gY hbw.size fun j hj => by injection hj with hj; omega⟩
    rw [hst.out.1, List.take_of_length_le (by have := HB.out.2.2.2.2.2.2; omega)]
   have HR := Lib.hid hR
   clear hR gY BY Bo Br B0 hbw
   go_wp2_with fail
   refine bodyPost_ret (v := .agg #[.string key, .slice Ao k co]) ?_ rfl HR.out
   rw [Blk.results_cell1 rfl]
   go_simp
end Own
end Go.Proofs.YtekhaejhmlebbaaGreat
