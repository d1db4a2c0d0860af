/-
  Several texts of this family in one: QuorumBehind, QuorumAwake, TreeMap, TreeOwn, TreeSort, TreeCopy, TreeRows, QuorumVersOwn, MendPlain, TreeSmall.
-/
import Derived.OwnWalkIn
import Derived.Test.YtbhidndgnldheaaGreatK13
import Derived.Test.YtbhidndgnldheaaGreatK1
import Derived.Maps.OwnSet
import Derived.Maps.OwnOps
import Derived.Maps.RangeWalk
import Derived.StringKeys
import Derived.Test.YtbhidndgnldheaaGreatK5
import Derived.Test.YtbhidndgnldheaaGreatK14
import Derived.Laws.Rows
import Derived.Test.YtbhidndgnldheaaGreatK6
import Derived.Shelf.SlSortCmp.WholeK
import Derived.Test.YtbhidndgnldheaaGreatK11
import Derived.WalkKit
import Derived.TacticsInMore
import Derived.LoopNIn
import Derived.LoopIn
import Derived.Test.YtbhidndgnldheaaGreatK10
/-
 The nodes that lack something of what comes of all.
-/
namespace Go.Proofs.YtbhidndgnldheaaGreat
namespace Quorum
open Go.RowKit Go.Shelf Vers Span Blk Rounds
attribute [local go_sem] Oper.semAt_some

theorem wpListIn_append_int {F : Fence} {k : Nat} {P : Program} (w : World) {ops : Array Oper} {rest : List Oper} {o : Oper} {a : Act} {Q : Exit → Act → World → Prop} (hgd : o.guard = none) (s x : Operand) (t : TypeId)
  (ho : o.op = .call { callee := .builtin .append, args := #[s, x], argTypes := #[t, t] })
  (base : Nat) (e : TypeId) (i : TypeInfo) (z : Value) (bytes : Nat) (ht : P.underlying t = some (.slice e)) (hi : P.info? e = some i) (hz : i.zero = some z)
  (hsize : i.size = 1) (hby : i.bytes = bytes) (hzs : z.cells.size = 1)
  (v : Value) (n : Nat) (xs : List Value) (hs : a.eval s = v) (hown : w.ownsRow base e 1 v n xs) (u : Value) (c : Nat)
  (hx : a.eval x = .slice (some ⟨w.heap.size, 0, none⟩) 1 c) (h1 : u.oneCell' = true)
  (hbytes : (n + 1) * bytes ≤ 140737488355328) (hn : n + 1 ≤ 140737488355328) (hbase : base ≤ w.heap.size)
  (h : ∀ v' w', w'.ownsRow base e 1 v' (n + 1) (xs ++ [u]) → w.grownBy w' v.ownBlock → (v'.ownBlock = v.ownBlock ∨ ∃ g, v'.ownBlock = some g ∧ w.heap.size ≤ g) → wpListIn F k P ops Q rest (a.put o.dst v') w') :
  wpListIn F k P ops Q (o :: rest) a (w.alloc (.cells #[u] e)) := by
 refine wpListIn_plain hgd fun K hK => ?_
 obtain ⟨v', w', hrun, r1, hg, _, hat⟩ := run_append_own_at (P := P) (w := w.alloc (.cells #[u] e)) base t o.type e i z 1 bytes ht hi hz hsize hby hzs (by omega) v n xs (hown.alloc _) ⟨w.heap.size, 0, none⟩ 1 c [u] rfl
  (by
   intro j u' hj
   match j, hj with
   | 0, hj => simp at hj; subst hj; simp [Addr.add])
  (by intro u' hu; simp at hu; subst hu; exact h1) (by unfold maxLen; omega) hbytes (by simp; omega)
 unfold Oper.wpIn
 refine ⟨?_, ?_⟩
 ·simp [Oper.about, ho, resolve, Target.leads, Sem.run_pure]
 ·rw [Oper.semAt_plain F _ _ (by rw [ho]; intro c hc'; cases hc')]
  simp only [execOp, ho, resolve, invoke, builtin, List.map_toArray, List.map_cons, List.map_nil, hs, hx, Sem.run_bind, Sem.run_pure, Result.andThen_ok, hrun]
  refine hK _ _ (h v' w' r1 ?_ ?_)
  ·exact ⟨hg.os, hg.tape, hg.output, Nat.le_trans (by simp) hg.size, fun k hk hne => (hg.block k (by simp; omega) hne).trans (Below.heap_alloc w _ k hk)⟩
  ·rcases hat with h1 | h1
   ·exact .inl h1
   ·exact .inr ⟨_, h1, by simp⟩


def lagF (z : List EP) (all : List Vr) : List Int := (z.filter fun e => lacksF e.1.2.2 all).map fun e => e.1.1
theorem lag_snoc (z : List EP) (e : EP) (all : List Vr) : lagF (z ++ [e]) all = if lacksF e.1.2.2 all = true then lagF z all ++ [e.1.1] else lagF z all := by
 unfold lagF
 rw [List.filter_append, List.map_append]
 cases h : lacksF e.1.2.2 all <;> simp [h]
theorem lag_len (z : List EP) (all : List Vr) : (lagF z all).length ≤ z.length := by
 unfold lagF
 rw [List.length_map]
 exact List.length_filter_le _ _
theorem lag_told (z : List EP) (all : List Vr) : lagF (toldF z) all = behindF (z.map Prod.fst) all := by
 unfold lagF toldF behindF
 rw [List.filter_filter, List.filter_map, List.map_map]
 congr 1
 apply List.filter_congr
 intro e _
 simp [Bool.and_comm]
theorem own_keep {w w' : World} {B : Nat} {t : TypeId} {v : Value} {n : Nat} {xs : List Value} (h : w.ownsRow B t 1 v n xs) (hb : ∀ k, B ≤ k → k < w.heap.size → w'.heap[k]? = w.heap[k]?) : w'.ownsRow B t 1 v n xs := by
 refine ⟨h.1, ?_⟩
 rcases h.2 with hn | ⟨g, cap, cur, rfl, hbg, hg, rest⟩
 ·exact .inl hn
 ·exact .inr ⟨g, cap, cur, rfl, hbg, by rw [hb g hbg (Array.getElem?_eq_some_iff.1 hg).1]; exact hg, rest⟩
def MidB (K : Nat) (W2 : World) (all : List Vr) (pre : List EP) (W : World) : Prop :=
 Below (K + 1) W2 W ∧ K + 4 ≤ W.heap.size ∧ ∃ A c n, Bn (K + 1) 26 [.slice A n c] W ∧ (lagF pre all).length = n ∧ W.ownsRow (K + 4) 3 1 (.slice A n c) n (nums .i64 (lagF pre all))
theorem midB_put {K : Nat} {W2 : World} {all : List Vr} (pre : List EP) (W : World) (o : Obj) (h : MidB K W2 all pre W) : MidB K W2 all pre (W.putObj (K + 1 + 1 + 1) o) := by
 obtain ⟨h1, h2, A, c, n, h3, h4, h5⟩ := h
 exact ⟨below_put h1 (by omega), by simpa using h2, A, c, n, h3.same (World.putObj_heap_other (by omega)), h4, own_keep h5 fun k hk _ => World.putObj_heap_other (by omega)⟩
set_option maxRecDepth 100000 in
set_option maxHeartbeats 2000000 in
theorem behind_any {T : TypeId} {F : Nat → Prop} {w : World} {rb n lb cl cb ab : Nat} {need : Int} {l : List En} {x : List Value} {ps : List Plc} (h : Core T F w rb need l n lb cl cb ab x) (ha : Ans F w l ps cb ab) :
  Calls Tryz.prog 19 #[hd rb] w (NewI (behindF l (versF l)) w) := by
 obtain ⟨i0, hi0, hz0, hz1, hz2⟩ := info_parts info_int
 have HI := Lib.hid (And.intro hi0 (And.intro hz0 (And.intro hz1 hz2)))
 refine (callsIn_wide (n := 3)).1 ?_
 refine callsIn_of_wp_marks Tryz.func19 rfl trivial ?_ rfl
 simp only [Tryz.ntmps19, List.size_toArray, List.length_cons, List.length_nil, Nat.reduceAdd, Nat.reduceSub, Array.replicate_succ, Array.replicate_zero, List.push_toArray, List.append_toArray, List.nil_append, List.cons_append]
 have hv := vers_any h ha
 have hlow := vers_small l
 obtain ⟨V, hV⟩ : ∃ V, versF l = V := ⟨_, rfl⟩
 obtain ⟨N, hN⟩ : ∃ N, V.length = N := ⟨_, rfl⟩
 obtain ⟨m, hm⟩ : ∃ m, w.heap.size = m := ⟨_, rfl⟩
 rw [hV] at hv hlow ⊢
 unfold GotVs at hv
 rw [hN] at hv hlow
 have HV := Lib.hid hv
 have hF : ∀ k, F k → k < m := fun k hk => by rw [← hm]; exact h.lt k hk
 have HH := Lib.hid (And.intro h (And.intro ha (And.intro hF (And.intro hN (And.intro hm hlow)))))
 clear h ha hF hN hV hv hlow hi0 hz0 hz1 hz2 hm
 gi_wp2_with (refine ⟨trivial, ?_⟩; gi_at_call 10; refine (callsIn_wide.2 HV.out).mono ?_; rintro e1 w1 ⟨A, c, rfl, g1, g3⟩)
 obtain ⟨W2, hW2⟩ : ∃ W, (w1.alloc (.cells #[.slice A N c] 22)).alloc (.cells #[.slice none 0 0] 26) = W := ⟨_, rfl⟩
 obtain ⟨K, hK⟩ : ∃ K, w1.heap.size = K := ⟨_, rfl⟩
 have s2 : W2.heap.size = K + 1 + 1 := by rw [← hW2]; simp [hK]
 have b2 : Below K w1 W2 := by rw [← hW2]; exact ((Below.refl _ w1).alloc (by omega) _).alloc (by simp; omega) _
 have B0 : Bn K 22 [.slice A N c] W2 := by
  have h1 : Bn w1.heap.size 22 [.slice A N c] (w1.alloc (.cells #[.slice A N c] 22)) := heap_alloc_new w1 _
  rw [hK] at h1
  rw [← hW2]
  exact h1.same (Below.heap_alloc _ _ _ (by simp; omega))
 have B1 : Bn (K + 1) 26 [.slice none 0 0] W2 := by
  have h1 := heap_alloc_new (w1.alloc (.cells #[.slice A N c] 22)) (.cells #[.slice none 0 0] 26)
  rw [World.size_alloc, hK, hW2] at h1
  exact h1
 have HW := Lib.hid (And.intro b2 (And.intro B0 (And.intro B1 (And.intro hK (And.intro g1 g3)))))
 rw [hW2, hK]
 clear b2 B0 B1 hW2 g1 g3 hK
 refine range_bound (F := Fence.wide) (n := 3) (α := EP) (D := K + 1 + 1) s2 rfl (by omega) (gf := 32) (lb := #[hd rb]) rfl trivial (enters_of Tryz.func32 (by kernel_rfl) rfl)
  argsE (fun x => rfl)
  (fun pre W0 x W1 => W0 = W1 ∧ pre.length < 8 ∧ Told m x W0)
  (fun pre W0 x W1 h => by rw [h.1]; exact Below.refl _ _)
  (fun W1 W' => Below m W1 W')
  (MidB K W2 V) (fun _ _ _ => False) midB_put (fun _ _ _ _ h => h)
  (fun xs => xs = toldF (l.zip ps))
  (fun _ => True)
  ?seq ?start ?round ?done ?stop
 case seq =>
  intro J Jx W hb hs h0 hY
  obtain ⟨hC, hA, hF, hN, hm, hlow⟩ := HH.out
  obtain ⟨b2, B0, B1, hK, g1, g3⟩ := HW.out
  have hmK : m ≤ K := by have := g3.size; omega
  have b3 : Below m w W := by rw [hm] at g3; exact (g3.trans (b2.mono hmK)).trans (hb.mono (by omega))
  refine (each_in 2 (by omega) (K + 1 + 1 + 1) m J Jx (T := T) (F := F) (x := x) (fun pre y W0 hp h1 h2 => hY pre y W0 W0 ⟨rfl, hp, h2⟩ h1) W (by omega) (hC.keep b3.size fun k hk => b3.block k (hF k hk)) (hA.keep b3.size (b3.block ab (hF ab hC.2.2.2.1.2.2.2.1)) fun k hk _ _ => b3.block k (hF k hk)) hF h0).mono ?_
  rintro e W' ⟨hv, h | ⟨_, _, h⟩⟩
  ·exact ⟨hv, .inl ⟨_, rfl, h⟩⟩
  ·exact ⟨hv, .inr ⟨_, trivial, h⟩⟩
 case start =>
  intro W hb hs
  obtain ⟨b2, B0, B1, hK, g1, g3⟩ := HW.out
  exact ⟨hb.mono (by omega), by omega, none, 0, 0, B1.same (hb.block (K + 1) (by omega)), rfl, World.ownsRow_nil _ _ _ _⟩
 case round =>
  rintro pre x W0 W1 hs0 ⟨i1, i2, A1, c1, n1, i3, i4, i5⟩ ⟨rfl, t0, t1, t2, t3⟩
  obtain ⟨⟨nd, bo, an⟩, Ap, cp⟩ := x
  simp only at t1 t2 t3
  have HS := Lib.hid (lag_snoc pre ((nd, bo, an), Ap, cp) V)
  have hll := lag_len pre V
  obtain ⟨P, hP⟩ : ∃ P, lagF pre V = P := ⟨_, rfl⟩
  obtain ⟨M, hM⟩ : ∃ M, an.length = M := ⟨_, rfl⟩
  rw [hP] at i4 i5 hll HS
  rw [hM] at t1 t2
  have HT := Lib.hid (And.intro i1 (And.intro i2 (And.intro i3 (And.intro i4 (And.intro i5 (And.intro t0 (And.intro t1 (And.intro t2 (And.intro t3 (And.intro hM hll))))))))))
  simp only [argsE, hM]
  clear hP hM i1 i2 i3 i4 i5 t0 t1 t2 t3 hll
  gi_wp2
  refine ⟨Held.refl _ _, fun o => ?_⟩
  obtain ⟨i1, i2, i3, i4, i5, t0, t1, t2, t3, hM, hll⟩ := HT.out
  obtain ⟨hC, hA, hF, hN, hm, hlow⟩ := HH.out
  obtain ⟨b2, B0, B1, hK, g1, g3⟩ := HW.out
  have hmK : m ≤ K := by have := g3.size; omega
  have HmK := Lib.hid hmK
  have hn8 : n1 < 8 := by omega
  obtain ⟨Wb, hWb⟩ : ∃ Wb, W0.putObj (K + 1 + 1 + 1) o = Wb := ⟨_, rfl⟩
  have sb : Wb.heap.size = W0.heap.size := by rw [← hWb]; simp
  have fb : ∀ k, k ≠ K + 1 + 1 + 1 → Wb.heap[k]? = W0.heap[k]? := fun k hne => by rw [← hWb, World.putObj_heap_other hne]
  have pb : Below (K + 1) W0 Wb := by rw [← hWb]; exact below_put (Below.refl _ _) (by omega)
  have B3 : Bn K 22 [.slice A N c] Wb := (B0.same (i1.block K (by omega))).same (fb K (by omega))
  have B4 : Bn (K + 1) 26 [.slice A1 n1 c1] Wb := i3.same (fb (K + 1) (by omega))
  have o5 : Wb.ownsRow (K + 4) 3 1 (.slice A1 n1 c1) n1 (nums .i64 P) := own_keep i5 fun k hk _ => fb k (by omega)
  have v6 : Vs Wb 0 Wb.heap.size A V := (((g1.out.2.less (Nat.zero_le _)).more (by omega) |>.below b2).below (i1.mono (by omega)) |>.below (pb.mono (by omega))).more (by omega)
  have v3 : Vs Wb 0 Wb.heap.size Ap an := (t3.below (pb.mono (by omega))).more (by omega)
  obtain ⟨D, hD⟩ : ∃ D, lacksF an V = D := ⟨_, rfl⟩
  have hl := lacks_any Ap A cp c M N an V hM hN t1 g1.out.1 Wb v3 v6 (by omega) (by omega)
  rw [hD] at hl
  have HM := Lib.hid hl
  have hle := i2
  have c0 := B3.cell 0
  have HB := Lib.hid (And.intro pb (And.intro sb (And.intro B4 (And.intro o5 (And.intro i1 i2)))))
  have HD := Lib.hid hD
  have HO := Lib.hid i4
  rw [hWb]
  clear hWb fb pb B3 B4 o5 v6 v3 i1 i2 i3 i4 i5 t0 t1 t2 t3 hM hll hC hA hF hN hm hlow b2 B0 B1 hK g1 g3 hD hl hmK
  cases D
  ·gi_wp2_with (refine ⟨trivial, ?_⟩; gi_at_call 43; refine (callsIn_wide.2 HM.out).mono ?_; rintro e1 w3 ⟨rfl, g4⟩)
   obtain ⟨pb, sb, B4, o4, i1, i2⟩ := HB.out
   have hmK := HmK.out
   have b5 : Below (K + 1) W0 w3 := pb.trans (g4.mono (by omega))
   have hs5 := g4.size
   refine ⟨Held.below g4 (by omega), ⟨i1.trans b5, by omega, A1, c1, n1, B4.same (g4.block (K + 1) (by omega)), ?_, ?_⟩, fun o => below_put (b5.mono (by omega)) (by omega)⟩
   all_goals rw [HS.out, if_neg (by rw [HD.out]; simp)]
   ·exact HO.out
   ·exact own_keep o4 fun k _ hk => g4.block k hk
  ·gi_wp2_with (first
    | (refine ⟨trivial, ?_⟩; gi_at_call 43; refine (callsIn_wide.2 HM.out).mono ?_; rintro e1 w3 ⟨rfl, g4⟩
       have B5 : Bn (K + 1) 26 [.slice A1 n1 c1] w3 := HB.out.2.2.1.same (g4.block (K + 1) (by omega))
       have c5 := B5.cell 0
       have z5 := B5.frozen 0
       have o6 : w3.ownsRow (K + 4) 3 1 (.slice A1 n1 c1) n1 (nums .i64 P) := own_keep HB.out.2.2.2.1 fun k _ hk => g4.block k hk
       have hs3 : K + 4 ≤ w3.heap.size := by have := g4.size; omega
       have O6 := Lib.hid (And.intro o6 (And.intro g4 B5))
       clear o6 g4 B5)
    | (gi_at_builtin; refine wpListIn_append_int _ rfl _ _ 26 rfl (K + 4) 3 i0 _ 8 Tryz.underlying26 HI.out.1 HI.out.2.1 HI.out.2.2.1 HI.out.2.2.2 rfl _ n1 (nums .i64 P) rfl O6.out.1 (.int .i64 nd) 1 rfl rfl (by omega) (by omega) hs3 ?_; intro v5 w5 o5 g5 _; obtain ⟨A5, c5, rfl⟩ := own_form o5
       have g5' : w3.grownBy w5 (Value.slice A1 n1 c1).ownBlock := g5
       have B6 : Bn (K + 1) 26 [.slice A1 n1 c1] w5 := O6.out.2.2.kept g5' (fun e => by have := (O6.out.1.lt _ e.symm).1; omega)
       have c6 := B6.cell 0
       have z6 := B6.frozen 0
       have G6 := Lib.hid (And.intro o5 (And.intro g5' B6))
       clear o5 g5 g5' B6))
   obtain ⟨o6, g4, B5⟩ := O6.out
   obtain ⟨o5, g5, B6⟩ := G6.out
   obtain ⟨pb, sb, B4, o4, i1, i2⟩ := HB.out
   have hmK := HmK.out
   have hrow : ∀ k, (Value.slice A1 n1 c1).ownBlock = some k → K + 4 ≤ k := fun k hk => (o6.lt k hk).1
   have B7 := B6.set 0 (.slice A5 (n1 + 1) c5)
   have hs5 := g5.size
   have b5 : Below (K + 1) W0 (w5.setCell ⟨K + 1, 0, none⟩ (.slice A5 (n1 + 1) c5)) := ((pb.trans (g4.mono (by omega))).grown g5 (by omega) (fun k hk => by have := hrow k hk; omega)).setCell (by simp only; omega) _
   have hL := HO.out
   refine ⟨((Held.below g4 (by omega)).trans (Held.grown g5 (by omega) (fun k hk => by have := hrow k hk; omega))).trans (Held.setCell _ _ _ (by simp only; omega) (by simp only; omega)), ⟨i1.trans b5, by simp [World.setCell]; omega, A5, c5, n1 + 1, B7, ?_, ?_⟩, fun o => below_put (b5.mono (by omega)) (by omega)⟩
   all_goals rw [HS.out, if_pos HD.out]
   ·simp [hL]
   ·have h8 := own_keep (w' := w5.setCell ⟨K + 1, 0, none⟩ (.slice A5 (n1 + 1) c5)) o5 fun k hk _ => Below.heap_setCell _ _ _ _ (by simp only; omega)
    simpa [nums] using h8
 case done =>
  rintro xs W rfl ⟨j1, j2, A1, c1, n1, j3, j4, j5⟩ hd
  obtain ⟨hC, hA, hF, hN, hm, hlow⟩ := HH.out
  obtain ⟨b2, B0, B1, hK, g1, g3⟩ := HW.out
  rw [lag_told, zip_fst hA.1] at j4 j5
  have hmK : m ≤ K := by have := g3.size; omega
  have b3 : Below m w W := by rw [hm] at g3; exact (g3.trans (b2.mono hmK)).trans (j1.mono (by omega))
  have c0 := j3.cell 0
  have J := Lib.hid (And.intro b3 (And.intro j2 (And.intro j4 (And.intro j5 (And.intro hm hmK)))))
  clear hC hA hF hN hm hlow b2 B0 B1 hK g1 g3 j1 j2 j3 j4 j5 b3 hmK
  gi_wp2
  refine ⟨by simp, .inl ⟨_, _, rfl, run_takeDeferred (w := W) hd, ?_⟩⟩
  refine ⟨_, results_tmp rfl _ _ _, ?_⟩
  obtain ⟨b3, j2, j4, j5, hm, hmK⟩ := J.out
  have h7 := own_keep (w' := W.putObj (K + 1 + 1) (.deferred none)) j5 fun k hk _ => World.putObj_heap_other (by omega)
  refine ⟨A1, c1, by rw [j4]; rfl, Lib.hid ⟨own_ns (by rw [j4]; exact h7), fun hp a ha => ?_⟩, ?_⟩
  ·rw [j4] at hp
   have := (own_low h7).2 hp a ha
   omega
  ·rw [hm]
   exact below_put b3 (by omega)
 case stop =>
  rintro c0 xs W _ h
  exact h.elim
end Quorum
end Go.Proofs.YtbhidndgnldheaaGreat

/-
 The answers that the document fixes are given (layer 16).
-/
namespace Go.Proofs.YtbhidndgnldheaaGreat
namespace Quorum
open Go.RowKit Vers Span Blk
attribute [local go_sem ↓] Go.wp_at_zero Go.wp_at_succ

theorem lit2 (w : World) (x y : Int) : Ns .i64 (w.alloc (.cells #[.int .i64 x, .int .i64 y] 3)) (w.alloc (.cells #[.int .i64 x, .int .i64 y] 3)).heap.size (some ⟨w.heap.size, 0, none⟩) [x, y] := fun _ =>
 ⟨w.heap.size, 0, rfl, by simp, fun j hj => by
  obtain rfl | rfl : j = 0 ∨ j = 1 := by simp at hj; omega
  all_goals simp⟩
theorem lit3 (w : World) (x y z : Int) : Ns .i64 (w.alloc (.cells #[.int .i64 x, .int .i64 y, .int .i64 z] 3)) (w.alloc (.cells #[.int .i64 x, .int .i64 y, .int .i64 z] 3)).heap.size (some ⟨w.heap.size, 0, none⟩) [x, y, z] := fun _ =>
 ⟨w.heap.size, 0, rfl, by simp, fun j hj => by
  obtain rfl | rfl | rfl : j = 0 ∨ j = 1 ∨ j = 2 := by simp at hj; omega
  all_goals simp⟩
abbrev v1 : Vr := ⟨1, 1, [], false, ⟨#[]⟩⟩
theorem vs_one {W : World} {g : Nat} (h : Bn g 40 [.int .i64 1, .int .i64 1, .slice none 0 0, .bool false, .string ⟨#[]⟩] W) : Vs W 0 W.heap.size (some ⟨g, 0, none⟩) [v1] := fun _ => by
 refine ⟨g, 0, rfl, Nat.zero_le _, h.lt, fun j hj => ?_⟩
 obtain rfl : j = 0 := by simpa using hj
 exact ⟨none, 0, (h.cell 0).trans rfl, (h.cell 1).trans rfl, (h.cell 2).trans rfl, (h.cell 3).trans rfl, (h.cell 4).trans rfl, fun h => absurd h (by simp), by simp, by simp, Nat.zero_le _, fun h => absurd h (by simp)⟩
abbrev q1 : List En := [(3, false, []), (1, true, []), (2, false, [])]
abbrev q2 : List En := [(3, true, []), (1, true, []), (2, false, [])]
abbrev r1 : List En := [(1, true, [v1]), (2, false, [])]
abbrev r2 : List En := [(1, true, [v1]), (2, true, [])]
theorem aw1 : countF (startF [3, 1, 2]) 1 [] = (true, q1) := by decide
theorem aw2 : countF q1 1 [] = (false, q1) := by decide
theorem aw3 : countF q1 4 [] = (false, q1) := by decide
theorem aw4 : doneF 2 q1 = false := by decide
theorem aw5 : countF q1 3 [] = (true, q2) := by decide
theorem aw6 : waitsF q2 = [2] := by decide
theorem aw7 : doneF 2 q2 = true := by decide
theorem aw8 : gotF (startF [1, 2]) 1 [v1] = (true, r1) := by decide
theorem aw9 : gotF r1 2 [] = (true, r2) := by decide
theorem aw10 : versF r2 = [v1] := by decide
theorem aw11 : behindF r2 [v1] = [2] := by decide
theorem aw12 : doneF 2 r2 = true := by decide
set_option maxRecDepth 100000 in
set_option maxHeartbeats 2000000 in
theorem awake_any (w : World) : Calls Tryz.prog 4 #[] w (fun e w' => e = .returned (.bool true) ∧ Below w.heap.size w w') := by
 obtain ⟨W1, hW1⟩ : ∃ W, w.alloc (.cells #[.int .i64 3, .int .i64 1, .int .i64 2] 3) = W := ⟨_, rfl⟩
 have b1 : Below w.heap.size w W1 := by rw [← hW1]; exact (Below.refl _ w).alloc (Nat.le_refl _) _
 have n1 : Ns .i64 W1 W1.heap.size (some ⟨w.heap.size, 0, none⟩) [3, 1, 2] := by rw [← hW1]; exact lit3 w 3 1 2
 have H1 := Lib.hid (And.intro (newW_any (some ⟨w.heap.size, 0, none⟩) 3 3 [3, 1, 2] rfl 2 W1 n1 (by omega) (by omega)) b1)
 clear b1 n1
 go_enter Tryz.func4, Tryz.ntmps4
 go_wp2_with fail
 refine H1.out.1.mono ?_
 rintro e w2 (⟨no, _⟩ | ⟨_, rb, lb, cl, cb, ab, rfl, h2⟩)
 ·exact absurd (by decide) no
 have H2 := Lib.hid (ack_any h2.out.1 (by rw [start_fst]; decide) 1 aw1)
 have B2 := Lib.hid (H1.out.2.trans (h2.out.2.mono H1.out.2.size))
 have F2 : Hid (∀ k, (W1.heap.size ≤ k ∧ k < w2.heap.size) → w.heap.size ≤ k) := Lib.hid fun k hk => Nat.le_trans H1.out.2.size hk.1
 clear H1
 go_wp2_with fail
 refine H2.out.mono ?_
 rintro e w3 ⟨rfl, h3⟩
 have H3 := Lib.hid (ack_any h3.out.1 (by decide) 1 aw2)
 have B3 := Lib.hid (B2.out.trans (h3.out.2.below F2.out B2.out.size))
 clear H2 h2
 go_wp2_with fail
 refine H3.out.mono ?_
 rintro e w4 ⟨rfl, h4⟩
 have H4 := Lib.hid (ack_any h4.out.1 (by decide) 4 aw3)
 have B4 := Lib.hid (B3.out.trans (h4.out.2.below F2.out B3.out.size))
 clear H3 h3 B2
 go_wp2_with fail
 refine H4.out.mono ?_
 rintro e w5 ⟨rfl, h5⟩
 have H5 := Lib.hid (doneW_any h5.out.1)
 have B5 := Lib.hid (B4.out.trans (h5.out.2.below F2.out B4.out.size))
 clear H4 h4 B3
 go_wp2_with fail
 rw [aw4] at H5
 refine H5.out.mono ?_
 rintro e w6 ⟨rfl, b6⟩
 have h6 := h5.out.1.below b6
 have H6 := Lib.hid (ack_any h6 (by decide) 3 aw5)
 have B6 := Lib.hid (B5.out.trans (b6.mono B5.out.size))
 clear H5 h5 B4 h6 b6
 go_wp2_with fail
 refine H6.out.mono ?_
 rintro e w7 ⟨rfl, h7⟩
 have H7 := Lib.hid (waitsW_any h7.out.1)
 have B7 := Lib.hid (B6.out.trans (h7.out.2.below F2.out B6.out.size))
 clear H6 B5
 go_wp2_with fail
 rw [aw6] at H7
 refine H7.out.mono ?_
 rintro e w8 ⟨Al, kl, rfl, hl, b8⟩
 have C8 := Lib.hid (h7.out.1.below b8)
 have B8 := Lib.hid (B7.out.trans (b8.mono B7.out.size))
 have L8 := Lib.hid (hl.out.1 (by decide))
 clear H7 h7 B6 B7 hl b8
 simp only [List.length_cons, List.length_nil, Nat.zero_add] at L8
 obtain ⟨W9, hW9⟩ : ∃ W, w8.alloc (.cells #[.int .i64 1, .int .i64 2] 3) = W := ⟨_, rfl⟩
 have b9 : Below w8.heap.size w8 W9 := by rw [← hW9]; exact (Below.refl _ w8).alloc (Nat.le_refl _) _
 have n9 : Ns .i64 W9 W9.heap.size (some ⟨w8.heap.size, 0, none⟩) [1, 2] := by rw [← hW9]; exact lit2 w8 1 2
 have H9 := Lib.hid (And.intro (newR_any (some ⟨w8.heap.size, 0, none⟩) 2 2 [1, 2] rfl 2 W9 n9 (by omega) (by omega)) b9)
 clear b9 n9
 go_wp2_with fail
 refine H9.out.1.mono ?_
 rintro e w10 (⟨no, _⟩ | ⟨_, rr, lr, kr, cr, ar, rfl, h10⟩)
 ·exact absurd (by decide) no
 have B10 := Lib.hid (H9.out.2.trans (h10.out.2.2.mono H9.out.2.size))
 obtain ⟨V, hV⟩ : ∃ W, w10.alloc (.cells #[.int .i64 1, .int .i64 1, .slice none 0 0, .bool false, .string ⟨#[]⟩] 40) = W := ⟨_, rfl⟩
 have bV : Below w10.heap.size w10 V := by rw [← hV]; exact (Below.refl _ w10).alloc (Nat.le_refl _) _
 have NV : Bn w10.heap.size 40 [.int .i64 1, .int .i64 1, .slice none 0 0, .bool false, .string ⟨#[]⟩] V := by rw [← hV]; exact heap_alloc_new w10 _
 obtain ⟨vb, hvb⟩ : ∃ b, w10.heap.size = b := ⟨_, rfl⟩
 rw [hvb] at NV
 have H11 := Lib.hid (got_any (h10.out.1.below bV) (h10.out.2.1.below bV) (by rw [start_fst]; decide) 1 (some ⟨vb, 0, none⟩) 1 1 [v1] rfl (by omega) (vs_one NV) aw8)
 have B11 := Lib.hid (And.intro (B10.out.trans (bV.mono B10.out.size)) NV)
 have F11 : Hid (∀ k, (W9.heap.size ≤ k ∧ k < w10.heap.size) → w8.heap.size ≤ k ∧ k ≠ vb) := Lib.hid fun k hk => ⟨Nat.le_trans H9.out.2.size hk.1, by omega⟩
 have S11 : Hid (vb < V.heap.size) := Lib.hid NV.lt
 have HV := Lib.hid hV
 clear H9 h10 bV NV hV
 go_wp2_with fail
 rw [HV.out]
 refine H11.out.mono ?_
 rintro e w12 ⟨rfl, h12⟩
 obtain ⟨F12, ps12, c12, a12, s12⟩ := h12.out
 have o12 := s12.old B11.out.1 fun k hk => (F11.out k hk).1
 have N12 := B11.out.2.same (s12.1.block vb S11.out fun hk => (F11.out vb hk).2 rfl)
 have H12 := Lib.hid (got_any c12 a12 (by decide) 2 none 0 0 [] rfl (by omega) (Vs.nil none) aw9)
 have B12 := Lib.hid (And.intro o12 (And.intro N12 fun k (hk : F12 k) => show k ≠ vb from (s12.2 k hk).elim (fun h => (F11.out k h).2) fun h e => by have := S11.out; omega))
 clear H11 h12 c12 a12 s12 o12 N12 F11 B11 B10
 go_wp2_with fail
 refine H12.out.mono ?_
 rintro e w13 ⟨rfl, h13⟩
 obtain ⟨F13, ps13, c13, a13, s13⟩ := h13.out
 have o13 := (s13.old B12.out.1.1 B12.out.1.2).1
 have N13 := B12.out.2.1.same (s13.1.block vb B12.out.2.1.lt fun hk => B12.out.2.2 vb hk rfl)
 have H13 := Lib.hid (behind_any c13 a13)
 have B13 := Lib.hid (And.intro o13 (And.intro N13 (And.intro c13 a13)))
 clear H12 h13 c13 a13 s13 o13 N13 B12 S11
 rw [aw10, aw11] at H13
 go_wp2_with fail
 refine H13.out.mono ?_
 rintro e w14 ⟨Ab, kb, rfl, hb, b14⟩
 have L14 := Lib.hid (hb.out.1 (by decide))
 simp only [List.length_cons, List.length_nil, Nat.zero_add] at L14
 have o14 := B13.out.1.trans (b14.mono B13.out.1.size)
 have H14 := Lib.hid (doneW_any (C8.out.below o14))
 rw [aw7] at H14
 have B14 := Lib.hid (And.intro o14 (And.intro (bn_below B13.out.2.1 b14) (And.intro (B13.out.2.2.1.below b14) (B13.out.2.2.2.below b14))))
 clear H13 hb b14 o14 B13 C8
 go_wp2_with fail
 refine H14.out.mono ?_
 rintro e w15 ⟨rfl, b15⟩
 have o15 := B14.out.1.trans (b15.mono B14.out.1.size)
 have H15 := Lib.hid (doneR_any (B14.out.2.2.1.below b15))
 rw [aw12] at H15
 have B15 := Lib.hid (And.intro o15 (And.intro (bn_below B14.out.2.1 b15) (And.intro (B14.out.2.2.1.below b15) (And.intro (B14.out.2.2.2.below b15) b15))))
 obtain ⟨lb8, lo8, rfl, hlb8, hl8⟩ := L8.out
 have x8 : w15.cell? ⟨lb8, lo8, none⟩ = some (.int .i64 2) := (o15.cell (p := ⟨lb8, lo8 + 0, none⟩) hlb8).trans (hl8 0 (by simp))
 obtain ⟨lb14, lo14, rfl, hlb14, hl14⟩ := L14.out
 have x14 : Hid (w14.cell? ⟨lb14, lo14, none⟩ = some (.int .i64 2)) := Lib.hid (hl14 0 (by simp))
 clear H14 b15 o15 B14 L8 L14 hl8 hl14
 go_wp2_with fail
 refine H15.out.mono ?_
 rintro e w16 ⟨rfl, b16⟩
 have H16 := Lib.hid (vers_any (B15.out.2.2.1.below b16) (B15.out.2.2.2.1.below b16))
 rw [aw10] at H16
 have HB := Lib.hid (And.intro hlb14 b16)
 clear H15 hlb14 b16
 go_wp2_with fail
 refine H16.out.mono ?_
 rintro e w17 ⟨Av, kv, rfl, hv, b17⟩
 have N17 := bn_below (bn_below B15.out.2.1 HB.out.2) b17
 have H17 := Lib.hid (ref_sameV_any Av (some ⟨vb, 0, none⟩) kv 1 1 1 [v1] [v1] rfl rfl w17 (hv.out.2.less (Nat.zero_le _)) (vs_one N17) (by omega) (by omega))
 rw [decide_eq_true rfl] at H17
 have HE := Lib.hid (And.intro b17 N17)
 simp only [List.length_cons, List.length_nil, Nat.zero_add]
 clear hv b17 N17 H16
 go_wp2_with fail
 refine H17.out.mono ?_
 rintro e w18 ⟨rfl, b18⟩
 have o18 : Below w14.heap.size w14 w18 := ((B15.out.2.2.2.2.trans (HB.out.2.mono B15.out.2.2.2.2.size)).trans (HE.out.1.mono (B15.out.2.2.2.2.trans (HB.out.2.mono B15.out.2.2.2.2.size)).size)).trans (b18.mono (Nat.le_trans (Nat.le_trans B15.out.2.2.2.2.size HB.out.2.size) HE.out.1.size))
 have y14 := (o18.cell (p := ⟨lb14, lo14, none⟩) HB.out.1).trans x14.out
 have oE : Below w.heap.size w w18 := ((((B8.out.trans (B15.out.1.mono B8.out.size)).trans (HB.out.2.mono (B8.out.trans (B15.out.1.mono B8.out.size)).size))).trans (HE.out.1.mono (Nat.le_trans (B8.out.trans (B15.out.1.mono B8.out.size)).size HB.out.2.size))).trans (b18.mono (Nat.le_trans (Nat.le_trans (B8.out.trans (B15.out.1.mono B8.out.size)).size HB.out.2.size) HE.out.1.size))
 have HO := Lib.hid oE
 clear o18 oE H17 b18 HE B8
 go_wp2_with fail
 go_ret
 exact ⟨rfl, HO.out⟩
end Quorum
end Go.Proofs.YtbhidndgnldheaaGreat

/-
 A map from names to slices, whatever the slices lead to: each value is held as it stands (layer 11).
-/
namespace Go.Proofs.YtbhidndgnldheaaGreat
namespace Tree
open Go.RowKit Blk Go.Maps Disk
def heldE (v : Value) : Option (DataW Value × List MemPlace) := some (.held v, [])
theorem keyed : Keyed Tryz.prog 9 := string_keyed Tryz.underlying9
def okN (s : Nm) : Prop := s.size ≤ maxLen
theorem key_of {s : Nm} (h : okN s) : ∃ kl, keyOf Tryz.prog 9 (.string s) = some kl := ⟨_, WideMaps.keyOf_string_mk Tryz.underlying9 h⟩
theorem key_inj {s t : Nm} {kl : Lit} (h : keyOf Tryz.prog 9 (.string s) = some kl) (h' : keyOf Tryz.prog 9 (.string t) = some kl) : s = t := by
 have := keyed.inj h h'
 injection this
theorem key_inv {key : Value} {kl : Lit} (h : keyOf Tryz.prog 9 key = some kl) : ∃ s : Nm, key = .string s ∧ okN s := by
 cases key <;> simp [keyOf, mapKey, Tryz.underlying9] at h
 exact ⟨_, rfl, h.1⟩
abbrev Vl := List (Nm × Value)
def MapV (D : DataW Value) (l : Vl) : Prop := ∀ s kl, keyOf Tryz.prog 9 (.string s) = some kl → ∀ z, D.atKey kl z = (match find l s with | some v => .held v | none => z)
theorem MapV.has {D : DataW Value} {l : Vl} (h : MapV D l) {s : Nm} {kl : Lit} (hk : keyOf Tryz.prog 9 (.string s) = some kl) : Maps.has D kl = (find l s).isSome := by
 have h1 := h s kl hk
 rcases hf : find l s with _ | v
 ·rw [hf] at h1
  exact Maps.has_false_of_atKey h1
 ·rw [hf] at h1
  exact Maps.has_true_of_atKey h1
def MI (w : World) (mb : Nat) (l : Vl) : Prop := ∃ D n, w.ownsMap Tryz.prog 9 heldE mb n D ∧ MapV D l ∧ Srt l ∧ (∀ x ∈ l, okN x.1) ∧ Maps.size D = l.length
theorem shrink {w : World} {mb n : Nat} {D : DataW Value} (h : w.ownsMap Tryz.prog 9 heldE mb n D) : w.ownsMap Tryz.prog 9 heldE mb (Maps.size D) D := by
 obtain ⟨es, clock, hb, F, _, rfl⟩ := h
 exact ⟨es, clock, hb, F, by simp [Maps.size, length_sorted], rfl⟩
theorem len_wout {l : Vl} (h : Srt l) (s : Nm) : (wout l s).length + (if (find l s).isSome then 1 else 0) = l.length := by
 induction l with
 | nil => rfl
 | cons y l ih =>
  obtain ⟨h1, h2⟩ := List.pairwise_cons.1 h
  have ih := ih h2
  have e : wout (y :: l) s = if y.1 = s then wout l s else y :: wout l s := by
   unfold wout
   by_cases h : y.1 = s
   ·simp [h]
   ·simp [h]
  rw [e]
  unfold find
  by_cases hs : y.1 = s
  ·have n1 : find l s = none := find_none.2 fun z hz e2 => nlt_ne (h1 z hz) (hs.trans e2.symm)
   rw [n1] at ih
   rw [if_pos hs, if_pos hs]
   simp at ih ⊢
   omega
  ·rw [if_neg hs, if_neg hs]
   simp only [List.length_cons]
   omega
theorem len_ins {β : Type} (l : List (Nm × β)) (s : Nm) (b : β) : (ins l s b).length = l.length + 1 := by
 induction l with
 | nil => rfl
 | cons y l ih =>
  unfold ins
  split
  ·rfl
  ·simp only [List.length_cons, ih]
theorem zeroS (w : World) : (zeroValue 22).run Tryz.prog w = .ok (.slice none 0 0) w := by kernel_rfl
section
variable {w w' : World} {mb : Nat} {l : Vl}
theorem MI.lt (h : MI w mb l) : mb < w.heap.size := by
 obtain ⟨D, n, h, _⟩ := h
 exact h.lt
theorem MI.same (h : MI w mb l) (hk : w'.heap[mb]? = w.heap[mb]?) : MI w' mb l := by
 obtain ⟨D, n, ⟨q, clock, h1, h2⟩, hr⟩ := h
 exact ⟨D, n, ⟨q, clock, hk.trans h1, h2⟩, hr⟩
theorem MI.ne (h : MI w mb l) {t : TypeId} {cs : Array Value} {fr : Nat × Nat} {g : Nat} (hc : w.heap[g]? = some (.cells cs t fr)) : g ≠ mb := fun q => by
 obtain ⟨D, n, ⟨q1, q2, q3, _⟩, _⟩ := h
 rw [q, q3] at hc
 injection hc with hc
 cases hc
theorem mi_made (w : World) : MI (w.alloc (.map #[] 0)) w.heap.size [] :=
 ⟨_, 0, World.ownsMap_made w _ _ _, (fun s kl _ z => by rfl), Srt.nil, (fun x hx => by cases hx), rfl⟩
theorem held_is {D : DataW Value} {l : Vl} (hm : MapV D l) {s : Nm} {kl : Lit} (hkl : keyOf Tryz.prog 9 (.string s) = some kl) {v : Value} {ps : List MemPlace} (hv : heldE v = some (D.atKey kl (.held (.slice none 0 0)), ps)) : v = (find l s).getD (.slice none 0 0) := by
 have h1 := hm s kl hkl (.held (.slice none 0 0))
 have e1 : DataW.held v = D.atKey kl (.held (.slice none 0 0)) := congrArg Prod.fst (Option.some.inj hv)
 rw [h1] at e1
 cases hf : find l s with
 | none => rw [hf] at e1; exact DataW.held.inj e1
 | some u => rw [hf] at e1; exact DataW.held.inj e1
theorem MI.look_ok (h : MI w mb l) (s : Nm) (hs : okN s) : (Instr.lookup 117 (.map (some mb)) (.string s) true).run Tryz.prog w = .ok (.tuple #[(find l s).getD (.slice none 0 0), .bool (find l s).isSome]) w := by
 obtain ⟨D, n, ho, hm, _, _, _⟩ := h
 obtain ⟨kl, hkl⟩ := key_of hs
 obtain ⟨v, ps, hrun, hv⟩ := ho.look_ok (t := 117) (e := 22) keyed Tryz.underlying117 (zeroS w) (zd := .held (.slice none 0 0)) (zp := []) rfl hkl
 have hv3 : v = (find l s).getD (.slice none 0 0) := held_is hm hkl hv
 rw [← hv3, ← hm.has hkl]
 exact hrun
theorem MI.store (h : MI w mb l) (hn : l.length < 140737488355328) (s : Nm) (hs : okN s) (v : Value) : ∃ w', (Instr.mapUpdate 117 (.map (some mb)) (.string s) v).run Tryz.prog w = .ok () w' ∧ MI w' mb (wit l s v) ∧ w.grownBy w' (some mb) := by
 obtain ⟨D, n, ho, hm, hsr, hok, hsz⟩ := h
 obtain ⟨kl, hkl⟩ := key_of hs
 obtain ⟨w', hrun, h1, h2⟩ := (shrink ho).store (t := 117) (e := 22) keyed Tryz.underlying117 (by rw [hsz]; unfold maxLen; omega) (d := .held v) (ps := []) hkl rfl
 refine ⟨w', hrun, ⟨_, _, h1, fun t kt hkt z => ?_, hsr.wit s v, fun x hx => ?_, ?_⟩, h2.grown⟩
 ·rw [find_wit]
  by_cases e : t = s
  ·subst e
   obtain rfl : kt = kl := by rw [hkt] at hkl; injection hkl
   rw [if_pos rfl, Maps.atKey_put_same ho.isMap (keyed.key hkl)]
  ·rw [if_neg e, Maps.atKey_put_other (fun q => e (key_inj hkt (by rw [q]; exact hkl)))]
   exact hm t kt hkt z
 ·rcases mem_wit.1 hx with rfl | ⟨hx, _⟩
  ·exact hs
  ·exact hok x hx
 ·rw [Maps.size_put (ho.tidy keyed), hm.has hkl, hsz, wit, len_ins]
  have := len_wout hsr s
  split at this <;> rename_i hc
  ·rw [if_pos hc]; omega
  ·rw [if_neg hc]; omega
theorem MI.drop (h : MI w mb l) (s : Nm) (hs : okN s) (ty : TypeId) : ∃ w', (Builtin.delete_ #[117, 9] ty #[.map (some mb), .string s]).run Tryz.prog w = .ok (.tuple #[]) w' ∧ MI w' mb (wout l s) ∧ w.grownBy w' (some mb) := by
 obtain ⟨D, n, ho, hm, hsr, hok, hsz⟩ := h
 obtain ⟨kl, hkl⟩ := key_of hs
 obtain ⟨w', hrun, h1, h2⟩ := ho.drop (t := 117) (e := 22) keyed Tryz.underlying117 hkl ty
 refine ⟨w', hrun, ⟨_, _, h1, fun t kt hkt z => ?_, hsr.wout s, fun x hx => hok x (mem_wout.1 hx).1, ?_⟩, h2.grown⟩
 ·rw [find_wout]
  by_cases e : t = s
  ·subst e
   obtain rfl : kt = kl := by rw [hkt] at hkl; injection hkl
   rw [if_pos rfl, Maps.atKey_del_same]
  ·rw [if_neg e, Maps.atKey_del_other (fun q => e (key_inj hkt (by rw [q]; exact hkl)))]
   exact hm t kt hkt z
 ·have h3 := Maps.size_del (k := kl) (ho.tidy keyed)
  rw [hm.has hkl, hsz] at h3
  have := len_wout hsr s
  omega
end
end Tree
end Go.Proofs.YtbhidndgnldheaaGreat

/-
 Trees in memory: a block of maps and of spots; each map's block; each key's versions.
-/
namespace Go.Proofs.YtbhidndgnldheaaGreat
namespace Tree
open Go.RowKit Vers Num Ring Disk Blk
open Go.Proofs.YtbhidndgnldheaaGreat.Code hiding Bn

abbrev Fp := Nm → Option Addr × Nat
def vOf (f : Fp) (r : Rc) : Nm × Value := (r.1, .slice (f r.1).1 r.2.length (f r.1).2)
def Spot (L : List Value) (s : Nat) (h : Int) (bz : Prop) : Prop :=
 ∃ (d k x : Int), L[256 + 4 * s]? = some (.int .u32 d) ∧ L[256 + 4 * s + 1]? = some (.int .i32 k) ∧ L[256 + 4 * s + 2]? = some (.int .u32 0) ∧ L[256 + 4 * s + 3]? = some (.int .u64 x) ∧
  (bz → d = 0 ∧ k = 1) ∧ (¬ bz → k = 0 ∧ (d = 0 ∨ (d = 1 ∧ x = h)))
def Cells (L : List Value) (mv : Nat → Option Nat) (all : List Rc) (Bz : List Int → Prop) : Prop :=
 L.length = 1348 ∧ (∀ i, i < 256 → L[i]? = some (.map (mv i))) ∧ ∀ p, okP p → Spot L (spotN p) (hashF all p) (Bz p)
def Mu (tb : Nat) (mv : Nat → Option Nat) (k : Nat) : Prop := k = tb ∨ ∃ i, i < 256 ∧ mv i = some k
def Row (F M : Nat → Prop) (w : World) (f : Fp) (r : Rc) : Prop :=
 ∃ L B, Vs w L B (f r.1).1 r.2 ∧ r.2.length ≤ (f r.1).2 ∧ B ≤ w.heap.size ∧ ∀ k, L ≤ k → k < B → F k ∧ ¬ M k
def Leaf (F : Nat → Prop) (w : World) (f : Fp) (all : List Rc) (i : Nat) (m : Option Nat) : Prop :=
 (m = none → leafR all i = []) ∧ ∀ mb, m = some mb → F mb ∧ MI w mb ((leafR all i).map (vOf f))
def okAll (all : List Rc) : Prop := Srt all ∧ ∀ r ∈ all, okR r ∧ r.2 ≠ []
def hd (tb : Nat) : Value := .pointer (some ⟨tb, 0, none⟩)
section
variable {F F' M : Nat → Prop} {w w' : World} {tb : Nat} {mv : Nat → Option Nat} {f : Fp} {all : List Rc} {Bz Bz' : List Int → Prop} {r : Rc} {p : List Int}
theorem Row.keep (h : Row F M w f r) (hs : w.heap.size ≤ w'.heap.size) (hk : ∀ k, F k → ¬ M k → w'.heap[k]? = w.heap[k]?) : Row F M w' f r := by
 obtain ⟨L, B, h1, h2, h3, h4⟩ := h
 exact ⟨L, B, h1.keep fun a ha hb => World.cell?_of_block (hk _ (h4 _ ha hb).1 (h4 _ ha hb).2), h2, Nat.le_trans h3 hs, h4⟩
theorem Row.vs (h : Row F M w f r) : Vs w 0 w.heap.size (f r.1).1 r.2 := by
 obtain ⟨L, B, h1, h2, h3, h4⟩ := h
 exact (h1.more h3).less (Nat.zero_le _)
theorem Row.cap (h : Row F M w f r) : r.2.length ≤ (f r.1).2 := by
 obtain ⟨L, B, h1, h2, h3, h4⟩ := h
 exact h2
theorem Cells.set {L L' : List Value} (h : Cells L mv all Bz) (hp : okP p) (hl : L'.length = L.length) (hk : ∀ j, j < 256 + 4 * spotN p ∨ 256 + 4 * spotN p + 4 ≤ j → L'[j]? = L[j]?) (hs : Spot L' (spotN p) (hashF all p) (Bz' p)) (hb : ∀ q, q ≠ p → (Bz' q ↔ Bz q)) : Cells L' mv all Bz' := by
 obtain ⟨h1, h2, h3⟩ := h
 refine ⟨hl.trans h1, fun i hi => (hk i (by omega)).trans (h2 i hi), fun q hq => ?_⟩
 by_cases e : q = p
 ·subst e; exact hs
 ·have hne : spotN q ≠ spotN p := fun e2 => e (spot_inj hq hp e2)
  obtain ⟨d, k, x, s0, s1, s2, s3, s4, s5⟩ := h3 q hq
  exact ⟨d, k, x, (hk _ (by omega)).trans s0, (hk _ (by omega)).trans s1, (hk _ (by omega)).trans s2, (hk _ (by omega)).trans s3, fun hb' => s4 ((hb q e).1 hb'), fun hb' => s5 fun e2 => hb' ((hb q e).2 e2)⟩
end
end Tree
end Go.Proofs.YtbhidndgnldheaaGreat

/-
 Records are sorted by their keys (the sort of Go's library by its contract).
-/
namespace Go.Proofs.YtbhidndgnldheaaGreat
namespace Tree
open Go.RowKit Vers Num Ring Disk Blk
open Go.Proofs.YtbhidndgnldheaaGreat.Code hiding Bn
attribute [local go_sem ↓] Go.wp_at_zero Go.wp_at_succ

theorem cmpB_lt : ∀ a b : List UInt8, Lib.compareBytes a b < 0 ↔ a < b
 | [], [] => by simp [Lib.compareBytes]
 | [], _ :: _ => by simp [Lib.compareBytes]
 | _ :: _, [] => by simp [Lib.compareBytes]
 | a :: al, b :: bl => by
  unfold Lib.compareBytes
  rw [List.cons_lt_cons_iff]
  by_cases h : a < b
  ·simp [h]
  ·by_cases h2 : b < a
   ·have : a ≠ b := fun e => by subst e; exact h h2
    simp [h, h2, this]
   ·have e : a = b := UInt8.le_antisymm (UInt8.not_lt.1 h2) (UInt8.not_lt.1 h)
    simp [e]
    subst e
    exact cmpB_lt al bl
def cmpK (p q : Pr) : Int := Lib.compareBytes p.1.1.data.toList q.1.1.data.toList
theorem cmpK_lt (p q : Pr) : cmpK p q < 0 ↔ nlt p.1.1 q.1.1 = true := by
 unfold cmpK
 rw [cmpB_lt, nlt_iff, Lib.toList_data, Lib.toList_data]

theorem swoK : Go.Sort.SWO (ltOf cmpK) where
 irrefl x := by
  unfold ltOf
  rw [decide_eq_false_iff_not, cmpK_lt, nlt_irrefl]
  simp
 trans x y z h1 h2 := by
  unfold ltOf at *
  rw [decide_eq_true_eq, cmpK_lt] at *
  exact nlt_trans h1 h2
 ntrans x y z h1 h2 := by
  unfold ltOf at *
  rw [decide_eq_false_iff_not, cmpK_lt, Bool.not_eq_true] at *
  by_cases e : x.1.1 = y.1.1
  ·rw [e]; exact h2
  by_cases e2 : y.1.1 = z.1.1
  ·rw [← e2]; exact h1
  have a1 := nlt_tri h1 e
  have a2 := nlt_tri h2 e2
  exact nlt_asymm (nlt_trans a2 a1)

def Prs (w : World) (g : Nat) (l : List Pr) : Prop := ∀ j, j < l.length → w.cell? ⟨g, j * 2, none⟩ = some (.string (l.getD j (r0, none, 0)).1.1) ∧ w.cell? ⟨g, j * 2 + 1, none⟩ = some (.slice (l.getD j (r0, none, 0)).2.1 (l.getD j (r0, none, 0)).1.2.length (l.getD j (r0, none, 0)).2.2)

theorem holds_own {w : World} {base g cap n : Nat} {l : List Pr} (hn : l.length = n) (ho : w.ownsRow base 46 2 (.slice (some ⟨g, 0, none⟩) n cap) n (rcs l)) : Go.Sort.HoldsK rcc 2 w g 0 l.toArray := fun j hj => by
 rw [Go.Sort.size_flatK] at hj
 simp only [List.size_toArray] at hj
 have hq : j / 2 < l.length := by omega
 have hr : j % 2 < 2 := by omega
 have e := rcs_at l (j / 2) hq (j % 2) hr
 rw [show j / 2 * 2 + j % 2 = j by omega] at e
 have hc := World.ownsRow.cellAt ho j (by omega)
 rw [e] at hc
 rw [Go.Sort.get_flatK _ _ _ _ (by simpa using hj), Nat.zero_add]
 have e2 : l.toArray[j / 2]! = l.getD (j / 2) (r0, none, 0) := by
  rw [getElem!_pos _ _ (by simpa using hq)]
  simp [List.getD_eq_getElem?_getD, hq]
 rw [e2]
 refine ⟨?_, ho.frozenAt j⟩
 rw [hc]
 have h2 : j % 2 = 0 ∨ j % 2 = 1 := by omega
 rcases h2 with h2 | h2 <;> rw [h2] <;> rfl

theorem ins_none (p : Option Addr) (cap : Nat) (fv : Value) (w : World) :
  Calls Tryz.prog 88 #[.slice p 0 cap, .int .i64 0, .int .i64 0, fv] w fun e w' => e = .returned (.tuple #[]) ∧ w' = w := by
 go_enter Tryz.func88, Tryz.ntmps88
 go_wp2
 refine wp_loop_rounds 1 ?_
 rw [rounds_succ]
 go_wp2
 go_end0
 exact ⟨rfl, rfl⟩
theorem pdq_none (p : Option Addr) (cap : Nat) (lim : Int) (fv : Value) (w : World) :
  Calls Tryz.prog 81 #[.slice p 0 cap, .int .i64 0, .int .i64 0, .int .i64 lim, fv] w fun e w' => e = .returned (.tuple #[]) ∧ w' = w := by
 go_enter Tryz.func81, Tryz.ntmps81
 go_wp2
 refine wp_loop_rounds 1 ?_
 rw [rounds_succ]
 go_wp2_with (refine (ins_none _ _ _ _).mono ?_; rintro e w' ⟨rfl, rfl⟩)
 (try simp only [Exit.inBlock, Exit.then]); refine bodyPost_ret (results_none rfl _ _ _) rfl ?_
 exact ⟨rfl, rfl⟩
theorem sort_none (p : Option Addr) (cap : Nat) (fv : Value) (w : World) :
  Calls Tryz.prog 63 #[.slice p 0 cap, fv] w fun e w' => e = .returned (.tuple #[]) ∧ w' = w := by
 have hl : ∀ W, Calls Tryz.prog 82 #[.int .u64 0] W fun e w' => e = .returned (.int .i64 (Lib.bitLen 0 : Nat)) ∧ w' = W := fun W => Any.bits_Len (SlLaysF0.n15.bits (P := Tryz.prog) (ρ := Tryz.sortRec_ren) { Tryz.sortRec with }) 0 W (by omega) (by omega)
 go_enter Tryz.func63, Tryz.ntmps63
 go_wp2_with (first
  | (go_at_call 82; refine (hl _).mono ?_; rintro e w' ⟨rfl, rfl⟩)
  | (go_at_call 81; refine (pdq_none _ _ _ _ _).mono ?_; rintro e w' ⟨rfl, rfl⟩))
 go_end0
 exact ⟨rfl, rfl⟩
end Tree
end Go.Proofs.YtbhidndgnldheaaGreat

/-
 Copies: of numbers, of versions: what is made has no memory in common with what it was made of (layer 11).
-/
namespace Go.Proofs.YtbhidndgnldheaaGreat
namespace Tree
open Go.RowKit Vers Span Blk
attribute [local go_sem ↓] Go.wp_at_zero Go.wp_at_succ

theorem info_int : (Tryz.prog.info? 3).map (fun i => (i.zero, i.size, i.bytes)) = some (some (.int .i64 0), 1, 8) := by kernel_rfl
def Tn (t : TypeId) (w : World) (n : Nat) (A : Option Addr) : Prop := 0 < n → ∀ a, A = some a → ∃ cur, w.heap[a.block]? = some (.cells cur t (0, 0))
theorem Tn.same {t : TypeId} {w w' : World} {n : Nat} {A : Option Addr} (h : Tn t w n A) (hk : ∀ a, 0 < n → A = some a → w'.heap[a.block]? = w.heap[a.block]?) : Tn t w' n A := fun hn a ha => by
 obtain ⟨cur, hc⟩ := h hn a ha
 exact ⟨cur, (hk a hn ha).trans hc⟩
theorem Tn.lt {t : TypeId} {w : World} {n : Nat} {A : Option Addr} (h : Tn t w n A) (hn : 0 < n) {a : Addr} (ha : A = some a) : a.block < w.heap.size := by
 obtain ⟨cur, hc⟩ := h hn a ha
 exact (Array.getElem?_eq_some_iff.1 hc).1
theorem own_tn {w : World} {base : Nat} {e : TypeId} {size : Nat} {A : Option Addr} {c n : Nat} {us : List Value} (h : w.ownsRow base e size (.slice A n c) n us) : Tn e w n A := by
 rcases h.2 with ⟨hv, h0⟩ | ⟨g, cap, cur, hv, hbg, hg, _⟩
 ·subst h0
  exact fun h => absurd h (by omega)
 ·injection hv with h1 h2 h3
  subst h1
  exact fun _ a ha => by injection ha with ha; subst ha; exact ⟨cur, hg⟩
def OwnI (l : List Int) (n : Nat) (w : World) (e : Ending) (w' : World) : Prop := ∃ A1 c1, e = .returned (.slice A1 n c1) ∧ Hid (w'.ownsRow w.heap.size 3 1 (.slice A1 n c1) n (nums .i64 l)) ∧ Below w.heap.size w w'
set_option maxRecDepth 100000 in
theorem clonei_any (A : Option Addr) (c n : Nat) (l : List Int) (hn : l.length = n) (w : World) (hr : Ns .i64 w w.heap.size A l) (hbig : n ≤ 17592186043904) :
  Calls Tryz.prog 50 #[.slice A n c] w (OwnI l n w) := by
 obtain ⟨i0, hi0, hz0, hz1, hz2⟩ := info_parts info_int
 rcases A with _ | ad
 ·have h0 : l = [] := by
   rcases Nat.eq_zero_or_pos l.length with h0 | h0
   ·exact List.eq_nil_of_length_eq_zero h0
   ·obtain ⟨b, off, he, _⟩ := hr h0
    cases he
  subst h0
  obtain rfl : n = 0 := hn.symm
  have hne := Lib.run_eql_slice_nil (P := Tryz.prog) w 26 3 none 0 c 0 0 Tryz.underlying26
  rw [show (none : Option Addr).isNone = true from rfl] at hne
  go_enter Tryz.func50, Tryz.ntmps50
  go_wp2_with fail
  go_ret
  exact ⟨none, 0, rfl, Lib.hid ⟨rfl, .inl ⟨rfl, rfl⟩⟩, Below.refl _ _⟩
 ·have ho := World.ownsRow_lit (base := w.heap.size) (e := 3) (size := 1) w #[] 0 (Nat.le_refl _) (by unfold maxLen; omega) rfl
  have q2 : Ns .i64 (w.alloc (.cells #[] 3)) w.heap.size (some ad) l := hr.below ((Below.refl _ w).alloc (Nat.le_refl _) _)
  have hne := Lib.run_eql_slice_nil (P := Tryz.prog) w 26 3 (some ad) n c 0 0 Tryz.underlying26
  rw [show (some ad).isNone = false from rfl] at hne
  have Hn := Lib.hid hn
  clear hr hn
  go_enter Tryz.func50, Tryz.ntmps50
  have b0 := (Below.refl w.heap.size w).alloc (Nat.le_refl _) (.cells #[] 3)
  go_wp2_with (at_builtin; refine wpList_append_ns _ rfl (.tmp 5) (.tmp 6) 26 rfl w.heap.size 3 i0 _ 8 Tryz.underlying26 hi0 hz0 hz1 hz2 rfl _ 0 [] rfl ho .i64 w.heap.size (some ad) n c l Hn.out rfl q2 (by omega) (by omega) (by simp) ?_; intro v1 w1 o1 g1 at1)
  have b1 := b0.grown g1 (by simp) (fun j hj => (ho.lt j hj).1)
  obtain ⟨A1, c1, rfl⟩ := own_form o1
  have o2 : w1.ownsRow w.heap.size 3 1 (.slice A1 l.length c1) l.length (nums .i64 l) := by
   rw [Hn.out]
   simpa using o1
  have HF := Lib.hid (And.intro o2 b1)
  have hz : 0 + n = l.length := by rw [Hn.out, Nat.zero_add]
  have HZ := Lib.hid hz
  clear o1 g1 at1 o2 b1 b0 ho q2 hz
  go_wp2_with fail
  go_ret
  exact ⟨A1, c1, by simp, Lib.hid (by have h := HF.out.1; rw [Hn.out] at h; exact h), HF.out.2⟩

def NewV (l : List Vr) (m : Nat) (w : World) (e : Ending) (w' : World) : Prop := ∃ A1 c1, e = .returned (.slice A1 m c1) ∧ Hid (Vs w' w.heap.size w'.heap.size A1 l ∧ m ≤ c1 ∧ Tn 40 w' m A1) ∧ Below w.heap.size w w'
theorem vers_any (A : Option Addr) (c m : Nat) (l : List Vr) (hm : l.length = m) (hbig : m ≤ 1024) (hp : ∀ v ∈ l, v.past.length ≤ 4294967296) (w : World) (hv : Vs w 0 w.heap.size A l) :
  Calls Tryz.prog 28 #[.slice A m c] w (NewV l m w) := by
 have h := Lib.hid (list_any A c m l hm 0 w.heap.size w (Nat.le_refl _) hv hbig hp)
 have HM := Lib.hid hm
 clear hm hv
 go_enter Tryz.func28, Tryz.ntmps28
 go_wp2_with fail
 refine h.out.mono ?_
 rintro e w2 ⟨A1, c1, ps, rfl, h2, b2⟩
 rw [HM.out]
 go_wp2_with fail
 go_ret
 have h3 : m ≤ c1 := by
  have h4 := h2.out.1.1
  rw [show ps.length = l.length by rw [← h2.out.2, List.length_map]] at h4
  have h5 := (own_low h4).1
  rwa [HM.out] at h5
 have h6 : Tn 40 w2 m A1 := by
  have h4 := h2.out.1.1
  rw [show ps.length = l.length by rw [← h2.out.2, List.length_map]] at h4
  have h5 := own_tn h4
  rwa [HM.out] at h5
 refine ⟨A1, c1, rfl, Lib.hid ⟨?_, h3, h6⟩, b2⟩
 have := h2.out.1.vs (Nat.le_refl _) (Nat.le_refl _)
 rwa [h2.out.2] at this
end Tree
end Go.Proofs.YtbhidndgnldheaaGreat

/-
 Records that a call makes: a row of the call's own, each with versions of its own; where the rows stand is told, so that they can be written.
-/
namespace Go.Proofs.YtbhidndgnldheaaGreat
namespace Tree
open Go.RowKit Vers Num Ring Disk Blk
open Go.Proofs.YtbhidndgnldheaaGreat.Code hiding Bn

def RecN (w : World) (L B : Nat) (p : Pr) : Prop :=
 p.1.2.length ≤ p.2.2 ∧ p.1.1.size ≤ 140737488355328 ∧ p.1.2.length ≤ 512 ∧ ∃ ps : List Pv, ps.map Prod.fst = p.1.2 ∧ OwnVs L L B w (.slice p.2.1 p.1.2.length p.2.2) ps ∧ (∀ g, (Value.slice p.2.1 p.1.2.length p.2.2).ownBlock = some g → g < B) ∧ ∀ q ∈ ps, Tg w q.1.past.length q.2.1
theorem RecN.keep {w w' : World} {L B : Nat} {p : Pr} (h : RecN w L B p) (hk : ∀ k, L ≤ k → k < B → w'.heap[k]? = w.heap[k]?) : RecN w' L B p := by
 obtain ⟨h0, hz1, hz2, ps, h1, ⟨h2, h3⟩, h4, h5⟩ := h
 refine ⟨h0, hz1, hz2, ps, h1, ⟨own_same h2 fun g hg => hk g (h2.lt g hg).1 (h4 g hg), fun q hq => (h3 q hq).keep fun a ha hb => World.cell?_of_block (hk _ ha hb)⟩, h4, fun q hq => ?_⟩
 refine (h5 q hq).keep fun hn a ha hl => hk _ ((h3 q hq).2.2.2.2 hn a ha) ?_
 obtain ⟨b, off, e, hb, _⟩ := (h3 q hq).1 hn
 rw [e] at ha
 injection ha with ha
 rw [← ha]
 exact hb
theorem RecN.vs {w : World} {L B : Nat} {p : Pr} (h : RecN w L B p) : Vs w L B p.2.1 p.1.2 := by
 obtain ⟨h0, hz1, hz2, ps, h1, ⟨h2, h3⟩, h4, h5⟩ := h
 intro hp
 rw [← h1] at hp ⊢
 rw [List.length_map] at hp
 rcases h2.2 with ⟨_, h6⟩ | ⟨g, cap, cur, hv, hbg, hg, rest⟩
 ·omega
 ·injection hv with e1 e2 e3
  rw [e1] at h2 h4 ⊢
  refine ⟨g, 0, rfl, hbg, h4 g rfl, fun j hj => ?_⟩
  rw [List.length_map] at hj
  have e : (ps.map Prod.fst).getD j v0 = (ps.getD j z0).1 := by simp [List.getD_eq_getElem?_getD, hj]
  have hm : ps.getD j z0 ∈ ps := by
   rw [List.getD_eq_getElem?_getD, List.getElem?_eq_getElem hj]
   exact List.getElem_mem _
  rw [e]
  have hat : ∀ r, r < 5 → ∀ u, (vcc (ps.getD j z0))[r]? = some u → w.cell? ⟨g, 0 + j * 5 + r, none⟩ = some u := fun r hr u hu => by
   have hc := h2.cells (g := g) rfl (j * 5 + r) u (by rw [vcs_at ps j hj r hr]; exact hu)
   rw [Vers.add_plain] at hc
   rw [show 0 + j * 5 + r = 0 + (j * 5 + r) by omega]
   exact hc
  exact ⟨_, _, hat 0 (by omega) _ (by simp [vcc]), hat 1 (by omega) _ (by simp [vcc]), hat 2 (by omega) _ (by simp [vcc]), hat 3 (by omega) _ (by simp [vcc]), hat 4 (by omega) _ (by simp [vcc]), h3 _ hm⟩

set_option maxRecDepth 100000 in
theorem vers_new (key : Nm) (hkey : key.size ≤ 140737488355328) (A : Option Addr) (c m : Nat) (l : List Vr) (hm : l.length = m) (hl : RightV l) (w : World) (hv : Vs w 0 w.heap.size A l) :
  Calls Tryz.prog 28 #[.slice A m c] w (fun e w' => ∃ A1 c1, e = .returned (.slice A1 m c1) ∧ Hid (RecN w' w.heap.size w'.heap.size ((key, l), A1, c1)) ∧ Below w.heap.size w w') := by
 have h512 : l.length ≤ 512 := hl.1
 have hp : ∀ v ∈ l, v.past.length ≤ 4294967296 := fun v hv => by
  have h1 := (hl.2.1.1 v hv).2.1
  unfold Span.Right at h1
  have := h1.1
  omega
 have h := Lib.hid (list_own A c m l hm 0 w.heap.size w (Nat.le_refl _) hv (by omega) hp)
 have HM := Lib.hid (And.intro hm h512)
 clear hm hv hl hp h512
 go_enter Tryz.func28, Tryz.ntmps28
 go_wp2_with fail
 refine h.out.mono ?_
 rintro e w2 ⟨A1, c1, ps, rfl, h2, b2⟩
 rw [HM.out.1] at h2 ⊢
 go_wp2_with fail
 go_ret
 have h4 := h2.out.1.1
 have hl : ps.length = m := by rw [← HM.out.1, ← h2.out.2.1, List.length_map]
 rw [hl] at h4
 refine ⟨A1, c1, rfl, Lib.hid ⟨?_, hkey, HM.out.2, ps, h2.out.2.1, ?_, ?_, h2.out.2.2⟩, b2⟩
 ·show l.length ≤ c1
  rw [HM.out.1]
  exact (own_low h4).1
 ·show OwnVs _ _ _ _ (.slice A1 l.length c1) ps
  rw [HM.out.1]
  exact h2.out.1
 ·intro g hg
  have hg' : (Value.slice A1 l.length c1).ownBlock = some g := hg
  rw [HM.out.1] at hg'
  exact (h4.lt g hg').2

def RowT (base it : Nat) (w : World) (v : Value) (ps : List Pr) : Prop :=
 w.ownsRow base 46 2 v ps.length (rcs ps) ∧ ∀ p ∈ ps, ∃ L B, base ≤ L ∧ B ≤ w.heap.size ∧ (∀ g, v.ownBlock = some g → g < L ∨ B ≤ g) ∧ (it < L ∨ B ≤ it) ∧ RecN w L B p
theorem rowT_nil (base it : Nat) (w : World) : RowT base it w (.slice none 0 0) [] := ⟨World.ownsRow_nil _ _ _ _, fun p hp => by cases hp⟩
section
variable {base it : Nat} {w w' : World} {v : Value} {ps : List Pr}
theorem RowT.below (h : RowT base it w v ps) (hb : Below w.heap.size w w') : RowT base it w' v ps := by
 refine ⟨own_below h.1 hb (Nat.le_refl _), fun p hp => ?_⟩
 obtain ⟨L, B, h1, h2, h3, h4, h5⟩ := h.2 p hp
 exact ⟨L, B, h1, Nat.le_trans h2 hb.size, h3, h4, h5.keep fun k _ hk => hb.block k (by omega)⟩
theorem RowT.step (h : RowT base it w v ps) (hg : w.grownBy w' (some it)) (hne : some it ≠ v.ownBlock) : RowT base it w' v ps := by
 refine ⟨h.1.kept hg (Or.inr hne.symm), fun p hp => ?_⟩
 obtain ⟨L, B, h1, h2, h3, h4, h5⟩ := h.2 p hp
 exact ⟨L, B, h1, Nat.le_trans h2 hg.size, h3, h4, h5.keep fun k a b => hg.block k (by omega) fun e => by injection e with e; omega⟩
theorem RowT.other (h : RowT base it w v ps) {j : Nat} (hj : w.heap.size ≤ j) : RowT base j w v ps := by
 refine ⟨h.1, fun p hp => ?_⟩
 obtain ⟨L, B, h1, h2, h3, h4, h5⟩ := h.2 p hp
 exact ⟨L, B, h1, h2, h3, .inr (by omega), h5⟩
theorem RowT.add {w1 w2 : World} {v' : Value} {p : Pr} (h : RowT base it w v ps) (hit : it < w.heap.size) (hb1 : Below w.heap.size w w1) (hp : RecN w1 w.heap.size w1.heap.size p) (hb : base ≤ w.heap.size)
  (ho : w2.ownsRow base 46 2 v' (ps.length + 1) (rcs (ps ++ [p]))) (h2 : w1.grownBy w2 v.ownBlock) (hat : v'.ownBlock = v.ownBlock ∨ ∃ g, v'.ownBlock = some g ∧ w1.heap.size ≤ g) : RowT base it w2 v' (ps ++ [p]) := by
 have hs2 := h2.size
 have hs1 := hb1.size
 refine ⟨by simpa using ho, fun q hq => ?_⟩
 rcases List.mem_append.1 hq with hq | hq
 ·obtain ⟨L, B', h1, h3, h4, h5, h6⟩ := h.2 q hq
  refine ⟨L, B', h1, by omega, fun g hg' => ?_, h5, (h6.keep fun k a b => hb1.block k (by omega)).keep fun k a b => h2.block k (by omega) (fun e => ?_)⟩
  ·rcases hat with e | ⟨g', e, hge⟩
   ·exact h4 g (e ▸ hg')
   ·rw [hg'] at e
    injection e with e
    subst e
    exact .inr (by omega)
  ·have := h4 k e.symm
   omega
 ·obtain rfl := List.mem_singleton.1 hq
  refine ⟨w.heap.size, w1.heap.size, hb, hs2, fun g hg' => ?_, .inl hit, hp.keep fun k a b => h2.block k b (fun e => by have := (h.1.lt k e.symm).2; omega)⟩
  rcases hat with e | ⟨g', e, hge⟩
  ·exact .inl (h.1.lt g (e ▸ hg')).2
  ·rw [hg'] at e
   injection e with e
   subst e
   exact .inr hge
end

def Got (base : Nat) (w : World) (A : Option Addr) (ps : List Pr) : Prop :=
 0 < ps.length → ∃ g, A = some ⟨g, 0, none⟩ ∧ base ≤ g ∧ Prs w g ps ∧ (∃ cur, w.heap[g]? = some (.cells cur 46 (0, 0))) ∧ ∀ p ∈ ps, ∃ L B, base ≤ L ∧ B ≤ w.heap.size ∧ (g < L ∨ B ≤ g) ∧ RecN w L B p
theorem Got.keep {base : Nat} {w w' : World} {A : Option Addr} {ps : List Pr} (h : Got base w A ps) (hs : w.heap.size ≤ w'.heap.size) (hk : ∀ k, base ≤ k → k < w.heap.size → w'.heap[k]? = w.heap[k]?) : Got base w' A ps := fun hp => by
 obtain ⟨g, h1, h2, h3, ⟨cur, h4⟩, h5⟩ := h hp
 have hl := (Array.getElem?_eq_some_iff.1 h4).1
 refine ⟨g, h1, h2, fun j hj => ⟨(World.cell?_of_block (hk g h2 hl)).trans (h3 j hj).1, (World.cell?_of_block (hk g h2 hl)).trans (h3 j hj).2⟩, ⟨cur, (hk g h2 hl).trans h4⟩, fun p hp => ?_⟩
 obtain ⟨L, B, q1, q2, q3, q4⟩ := h5 p hp
 exact ⟨L, B, q1, Nat.le_trans q2 hs, q3, q4.keep fun k a b => hk k (by omega) (by omega)⟩
theorem Got.rs {base : Nat} {w : World} {A : Option Addr} {ps : List Pr} (h : Got base w A ps) : Rs w base w.heap.size A (ps.map Prod.fst) := fun hp => by
 rw [List.length_map] at hp
 obtain ⟨g, h1, h2, h3, ⟨cur, h4⟩, h5⟩ := h hp
 have hl := (Array.getElem?_eq_some_iff.1 h4).1
 refine ⟨g, 0, h1, h2, hl, fun j hj => ?_⟩
 rw [List.length_map] at hj
 have e : (ps.map Prod.fst).getD j r0 = (ps.getD j (r0, none, 0)).1 := by simp [List.getD_eq_getElem?_getD, hj]
 have hm : ps.getD j (r0, none, 0) ∈ ps := by
  rw [List.getD_eq_getElem?_getD, List.getElem?_eq_getElem hj]
  exact List.getElem_mem _
 obtain ⟨L, B, q1, q2, q3, q4⟩ := h5 _ hm
 rw [e]
 obtain ⟨c0, c1⟩ := h3 j hj
 rw [Nat.zero_add]
 have h512 := q4.2.2.1
 exact ⟨_, _, c0, c1, (q4.vs.more q2).less q1, q4.1, by omega, q4.2.1⟩
end Tree
end Go.Proofs.YtbhidndgnldheaaGreat

/-
 Read.Vers: what it tells lies in rows that can be written. Written by gen16/versown.py.
-/
namespace Go.Proofs.YtbhidndgnldheaaGreat
namespace Quorum
open Go.RowKit Go.Shelf Vers Span Blk Rounds
attribute [local go_sem] Oper.semAt_some
def Mid2 (m : Nat) (w : World) (pre : List EP) (W : World) : Prop :=
 Below m w W ∧ m + 3 ≤ W.heap.size ∧ ∃ A c, Bn m 22 [.slice A (accF pre).length c] W ∧ ∃ L B, m + 3 ≤ L ∧ B ≤ W.heap.size ∧ Tree.RecN W L B ((⟨#[]⟩, accF pre), A, c)
theorem mid2_put {m : Nat} {w : World} (pre : List EP) (W : World) (o : Obj) (h : Mid2 m w pre W) : Mid2 m w pre (W.putObj (m + 1 + 1) o) := by
 obtain ⟨h1, h2, A, c, h3, L, B, h4, h5, h6⟩ := h
 exact ⟨below_put h1 (by omega), by simpa using h2, A, c, h3.same (World.putObj_heap_other (by omega)), L, B, h4, by simpa using h5, h6.keep fun k hk _ => World.putObj_heap_other (by omega)⟩
theorem recN_none (W : World) (L B : Nat) : Tree.RecN W L B ((⟨#[]⟩, []), none, 0) := ⟨Nat.zero_le _, Nat.zero_le _, Nat.zero_le _, [], rfl, ⟨World.ownsRow_nil _ _ _ _, by simp⟩, fun g h => by simp [Value.ownBlock] at h, by simp⟩
def GotVo (all : List Vr) (w : World) (e : Ending) (w' : World) : Prop := ∃ A c, e = .returned (.slice A all.length c) ∧ Hid (∃ L B, w.heap.size ≤ L ∧ B ≤ w'.heap.size ∧ Tree.RecN w' L B ((⟨#[]⟩, all), A, c)) ∧ Below w.heap.size w w'
set_option maxRecDepth 100000 in
set_option maxHeartbeats 2000000 in
theorem vers_own_any {T : TypeId} {F : Nat → Prop} {w : World} {rb n lb cl cb ab : Nat} {need : Int} {l : List En} {x : List Value} {ps : List Plc} (h : Core T F w rb need l n lb cl cb ab x) (ha : Ans F w l ps cb ab) :
  Calls Tryz.prog 10 #[hd rb] w (GotVo (versF l) w) := by
 refine (callsIn_wide (n := 3)).1 ?_
 refine callsIn_of_wp_marks Tryz.func10 rfl trivial ?_ rfl
 simp only [Tryz.ntmps10, List.size_toArray, List.length_cons, List.length_nil, Nat.reduceAdd, Nat.reduceSub, Array.replicate_succ, Array.replicate_zero, List.push_toArray, List.append_toArray, List.nil_append, List.cons_append]
 obtain ⟨m, hm⟩ : ∃ m, w.heap.size = m := ⟨_, rfl⟩
 obtain ⟨W1, hW1⟩ : ∃ W, w.alloc (.cells #[.slice none 0 0] 22) = W := ⟨_, rfl⟩
 have b1 : Below w.heap.size w W1 := by rw [← hW1]; exact (Below.refl _ w).alloc (Nat.le_refl _) _
 have s1 : W1.heap.size = m + 1 := by rw [← hW1]; simp [hm]
 have B1 : Bn m 22 [.slice none 0 0] W1 := by rw [← hm, ← hW1]; exact heap_alloc_new w _
 obtain ⟨V, hV⟩ : ∃ V, versF l = V := ⟨_, rfl⟩
 have hF : ∀ k, F k → k < m := fun k hk => by rw [← hm]; exact h.lt k hk
 have HH := Lib.hid (And.intro h (And.intro ha (And.intro hF (And.intro b1 (And.intro B1 (And.intro hV hm))))))
 have HW1 := Lib.hid hW1
 rw [hV]
 clear h ha hF b1 B1 hV hW1
 gi_wp2
 rw [HW1.out]
 refine range_bound (F := Fence.wide) (n := 3) (α := EP) (D := m + 1) s1 rfl (by omega) (gf := 32) (lb := #[hd rb]) rfl trivial (enters_of Tryz.func32 (by kernel_rfl) rfl)
  argsE (fun x => rfl)
  (fun pre W0 x W1 => W0 = W1 ∧ Told m x W0)
  (fun pre W0 x W1 h => by rw [h.1]; exact Below.refl _ _)
  (fun W1 W' => Below m W1 W')
  (Mid2 m w) (fun _ _ _ => False) mid2_put (fun _ _ _ _ h => h)
  (fun xs => xs = toldF (l.zip ps))
  (fun _ => True)
  ?seq ?start ?round ?done ?stop
 case seq =>
  intro J Jx W hb hs h0 hY
  obtain ⟨hC, hA, hF, b1, B1, hV, hm⟩ := HH.out
  have b2 : Below m w W := by rw [← hm]; exact (b1.trans (hb.mono (by omega)))
  refine (each_in 2 (by omega) (m + 1 + 1) m J Jx (T := T) (F := F) (x := x) (fun pre y W0 _ h1 h2 => hY pre y W0 W0 ⟨rfl, h2⟩ h1) W (by omega) (hC.keep b2.size fun k hk => b2.block k (hF k hk)) (hA.keep b2.size (b2.block ab (hF ab hC.2.2.2.1.2.2.2.1)) fun k hk _ _ => b2.block k (hF k hk)) hF h0).mono ?_
  rintro e W' ⟨hv, h | ⟨_, _, h⟩⟩
  ·exact ⟨hv, .inl ⟨_, rfl, h⟩⟩
  ·exact ⟨hv, .inr ⟨_, trivial, h⟩⟩
 case start =>
  intro W hb hs
  obtain ⟨hC, hA, hF, b1, B1, hV, hm⟩ := HH.out
  refine ⟨by rw [← hm]; exact b1.trans (hb.mono (by omega)), by omega, none, 0, ?_, m + 3, m + 3, by omega, by omega, recN_none _ _ _⟩
  exact B1.same (hb.block m (by omega))
 case round =>
  rintro pre x W0 W1 hs0 ⟨i1, i2, A, c, i3, L9, B9, i7, i8, i9⟩ ⟨rfl, t1, t2, t3⟩
  obtain ⟨⟨nd, bo, an⟩, Ap, cp⟩ := x
  simp only at t1 t2 t3
  have HS := Lib.hid (acc_snoc pre ((nd, bo, an), Ap, cp))
  obtain ⟨P, hP⟩ : ∃ P, accF pre = P := ⟨_, rfl⟩
  rw [hP] at i3 i9 HS
  have i4 : P.length ≤ c := i9.1
  have i5 : P.length ≤ 512 := i9.2.2.1
  have i6 : Vs W0 (m + 3) W0.heap.size A P := (i9.vs.less i7).more i8
  have HN9 := Lib.hid (And.intro i7 (And.intro i8 i9))
  clear i7 i8 i9
  obtain ⟨N, hN⟩ : ∃ N, P.length = N := ⟨_, rfl⟩
  obtain ⟨M, hM⟩ : ∃ M, an.length = M := ⟨_, rfl⟩
  rw [hN] at i3 i4 i5
  rw [hM] at t1 t2
  have HT := Lib.hid (And.intro i1 (And.intro i2 (And.intro i3 (And.intro i4 (And.intro i5 (And.intro i6 (And.intro t1 (And.intro t2 (And.intro t3 (And.intro hN hM))))))))))
  have HP := Lib.hid hP
  simp only [argsE, hM]
  clear hP hN hM i1 i2 i3 i4 i5 i6 t1 t2 t3
  gi_wp2
  refine ⟨Held.refl _ _, fun o => ?_⟩
  obtain ⟨i1, i2, i3, i4, i5, i6, t1, t2, t3, hN, hM⟩ := HT.out
  obtain ⟨Wb, hWb⟩ : ∃ Wb, W0.putObj (m + 1 + 1) o = Wb := ⟨_, rfl⟩
  have sb : Wb.heap.size = W0.heap.size := by rw [← hWb]; simp
  have fb : ∀ k, k ≠ m + 1 + 1 → Wb.heap[k]? = W0.heap[k]? := fun k hne => by rw [← hWb, World.putObj_heap_other hne]
  have pb : Below m W0 Wb := by rw [← hWb]; exact below_put (Below.refl _ _) (by omega)
  have B3 : Bn m 22 [.slice A N c] Wb := i3.same (fb m (by omega))
  have v6 : Vs Wb 0 Wb.heap.size A P := (i6.keep fun p h1 h2 => World.cell?_of_block (fb _ (by omega))).less (Nat.zero_le _) |>.more (by omega)
  have v3 : Vs Wb 0 Wb.heap.size Ap an := (t3.below pb).more (by omega)
  have HM := Lib.hid (merge_own A Ap c cp N M P an hN hM i4 t1 Wb v6 v3 (by omega) (by omega))
  have c0 := B3.cell 0
  have HB := Lib.hid (And.intro pb (And.intro sb B3))
  have HW := Lib.hid hWb.symm
  rw [hWb]
  obtain ⟨r1, r2, hr⟩ : ∃ r1 r2, mergeF P an = (r1, r2) := ⟨_, _, rfl⟩
  have HL := Lib.hid (show r1.length ≤ 512 by have := merge_len P an; rw [hr] at this; exact this)
  rw [hr] at HM
  have HR := Lib.hid hr
  have HI := Lib.hid (And.intro i1 i2)
  clear hWb fb pb sb B3 v6 v3 i1 i2 i3 i4 i5 i6 t1 t2 t3 hN hM hr
  cases hz : r2 == 0
  ·gi_wp2_with (refine ⟨trivial, ?_⟩; gi_at_call 33; refine (callsIn_wide.2 HM.out).mono ?_; rintro e1 w1 ⟨A', c', qs, rfl, g1, g2, g2b, g2c, g3⟩)
   obtain ⟨pb, sb, B3⟩ := HB.out
   obtain ⟨i1, i2, i3, i4, i5, i6, t1, t2, t3, hN, hM⟩ := HT.out
   have hmr : mrg P an = P := by unfold mrg; rw [HR.out, if_neg (fun h => by simp only at h; rw [h] at hz; cases hz)]
   have g4 : Below (m + 1 + 1) Wb w1 := g3.mono (by omega)
   refine ⟨Held.below g3 (by omega), ⟨(i1.trans pb).trans (g4.mono (by omega)), by have := g3.size; omega, A, c, ?_, L9, B9, HN9.out.1, by have := HN9.out.2.1; have := g3.size; omega, ?_⟩, fun o => below_put (pb.trans (g4.mono (by omega))) (by omega)⟩
   all_goals rw [HS.out, hmr]
   ·rw [hN]
    exact B3.same (g3.block m (by omega))
   ·exact HN9.out.2.2.keep fun k h1 h2 => (g3.block k (by have := HN9.out.2.1; omega)).trans (by rw [HW.out]; exact World.putObj_heap_other (by have := HN9.out.1; omega))
  ·gi_wp2_with (refine ⟨trivial, ?_⟩; gi_at_call 33; refine (callsIn_wide.2 HM.out).mono ?_; rintro e1 w1 ⟨A', c', qs, rfl, g1, g2, g2b, g2c, g3⟩
                have B4 : Bn m 22 [.slice A N c] w1 := HB.out.2.2.same (g3.block m (by have := HB.out.2.1; omega))
                have c4 := B4.cell 0
                have z4 := B4.frozen 0
                have G := Lib.hid (And.intro g1 (And.intro (And.intro g2 (And.intro g2b g2c)) (And.intro g3 B4)))
                clear g1 g2 g2b g2c g3 B4)
   obtain ⟨pb, sb, B3⟩ := HB.out
   obtain ⟨i1, i2, i3, i4, i5, i6, t1, t2, t3, hN, hM⟩ := HT.out
   obtain ⟨g1, ⟨g2, g2b, g2c⟩, g3, B4⟩ := G.out
   have hmr : mrg P an = r1 := by unfold mrg; rw [HR.out, if_pos (by simpa using hz)]
   have hl := HL.out
   have B5 := B4.set 0 (.slice A' r1.length c')
   have g4 : Below m Wb (w1.setCell ⟨m, 0, none⟩ (.slice A' r1.length c')) := (g3.mono (by omega)).setCell (by simp only; omega) _
   have g5 := g3.size
   refine ⟨(Held.below g3 (by omega)).trans (Held.setCell _ _ _ (by simp only; omega) (by simp only; omega)), ⟨(i1.trans pb).trans g4, by simp [World.setCell]; omega, A', c', ?_, Wb.heap.size, w1.heap.size, by omega, by simp [World.setCell], ?_⟩, fun o => below_put (pb.trans g4) (by omega)⟩
   all_goals rw [HS.out, hmr]
   ·exact B5
   ·have R9 : Tree.RecN w1 Wb.heap.size w1.heap.size ((⟨#[]⟩, r1), A', c') := ⟨g1, Nat.zero_le _, hl, qs, g2b, g2, fun g hg => (g2.1.lt g hg).2, g2c⟩
    exact R9.keep fun k h1 _ => Below.heap_setCell _ _ _ _ (by simp only; omega)
 case done =>
  rintro xs W rfl ⟨j1, j2, A, c, j3, L9, B9, j4, j5, j6⟩ hd
  obtain ⟨hC, hA, hF, b1, B1, hV, hm⟩ := HH.out
  have hacc : accF (toldF (l.zip ps)) = V := by
   rw [acc_told, zip_fst hA.1, hV]
  rw [hacc] at j3 j6
  have c0 := j3.cell 0
  have J := Lib.hid (And.intro j1 (And.intro j2 (And.intro (And.intro j4 j5) (And.intro j6 hm))))
  clear hC hA hF b1 B1 hV hm hacc j1 j2 j3 j4 j5 j6
  gi_wp2
  refine ⟨by simp, .inl ⟨_, _, rfl, run_takeDeferred (w := W) hd, ?_⟩⟩
  refine ⟨_, results_tmp rfl _ _ _, ?_⟩
  obtain ⟨j1, j2, j4, j6, hm⟩ := J.out
  refine ⟨A, c, rfl, Lib.hid ⟨L9, B9, ?_, ?_, ?_⟩, ?_⟩
  ·have := j4.1; omega
  ·simpa using j4.2
  ·exact j6.keep fun k hk _ => World.putObj_heap_other (by have := j4.1; omega)
  ·rw [hm]
   exact below_put j1 (by omega)
 case stop =>
  rintro c0 xs W _ h
  exact h.elim
end Quorum
end Go.Proofs.YtbhidndgnldheaaGreat

/-
 Plain words of layer 14: what one holds, what one takes, gives and answers.
-/
namespace Go.Proofs.YtbhidndgnldheaaGreat
namespace Mend
open Vers Num Ring Disk Tree Go.Proofs.YtbhidndgnldheaaGreat.Code

def getF (l : List Rc) (k : Nm) : List Vr := (find l k).getD []
def heldF (l : List Rc) : List Rc := l.foldl withR []
def okL (l : List Rc) : Prop := ∀ r ∈ l, okR r
instance (l : List Rc) : Decidable (okL l) := by unfold okL; infer_instance
theorem find_with (l : List Rc) (r : Rc) (t : Nm) : find (withR l r) t = if t = r.1 then (if r.2 = [] then none else some r.2) else find l t := by
 unfold withR
 by_cases h : r.2 = []
 ·rw [if_pos h, if_pos h, find_wout]
 ·rw [if_neg h, if_neg h, find_wit]
theorem get_with (l : List Rc) (r : Rc) (t : Nm) : getF (withR l r) t = if t = r.1 then r.2 else getF l t := by
 unfold getF
 rw [find_with]
 by_cases ht : t = r.1
 ·rw [if_pos ht, if_pos ht]
  by_cases h : r.2 = []
  ·rw [if_pos h, h]; rfl
  ·rw [if_neg h]; rfl
 ·rw [if_neg ht, if_neg ht]
def Hel (l : List Rc) : Prop := Srt l ∧ ∀ r ∈ l, r.2 ≠ []
theorem hel_nil : Hel [] := ⟨Srt.nil, fun _ h => by cases h⟩
theorem Hel.with {l : List Rc} (h : Hel l) (r : Rc) : Hel (withR l r) := ⟨with_srt h.1 r, fun x hx => by
 rcases with_mem.1 hx with ⟨rfl, hn⟩ | ⟨hx, _⟩
 ·exact hn
 ·exact h.2 x hx⟩
theorem hel_fold (l : List Rc) : ∀ acc : List Rc, Hel acc → Hel (l.foldl withR acc) := by
 induction l with
 | nil => exact fun _ h => h
 | cons r l ih => exact fun acc h => ih _ (h.with r)
theorem held_hel (l : List Rc) : Hel (heldF l) := hel_fold l [] hel_nil
theorem held_snoc (l : List Rc) (r : Rc) : heldF (l ++ [r]) = withR (heldF l) r := by simp [heldF]
def lastF (l : List Rc) : List Rc := l.foldl (fun acc r => wit acc r.1 r.2) []
theorem last_snoc (l : List Rc) (r : Rc) : lastF (l ++ [r]) = wit (lastF l) r.1 r.2 := by simp [lastF]
theorem last_get (l : List Rc) (k : Nm) : getF (lastF l) k = getF (heldF l) k := by
 have h : ∀ (l a b : List Rc), (∀ k, getF a k = getF b k) → ∀ k, getF (l.foldl (fun acc r => wit acc r.1 r.2) a) k = getF (l.foldl withR b) k := by
  intro l
  induction l with
  | nil => exact fun a b h => h
  | cons r l ih =>
   intro a b h
   refine ih _ _ fun k => ?_
   rw [get_with]
   unfold getF
   rw [find_wit]
   by_cases hk : k = r.1
   ·rw [if_pos hk, if_pos hk]; rfl
   ·rw [if_neg hk, if_neg hk]; exact h k
 exact h l [] [] (fun _ => rfl) k
def mergeR (now : List Rc) (r : Rc) : List Rc := if (mergeF (getF now r.1) r.2).2 = 0 then withR now (r.1, (mergeF (getF now r.1) r.2).1) else now
def nowF (was theirs : List Rc) : List Rc := theirs.foldl mergeR was
def takeF (own theirs : List Rc) : List Rc := (nowF (heldF own) theirs).filter fun r => !decide (r.2 = getF (heldF own) r.1)
def baseT (was t : List Rc) (k : Nm) : List Vr := (find t k).getD (getF was k)
def mergeT (was t : List Rc) (r : Rc) : List Rc := if (mergeF (baseT was t r.1) r.2).2 = 0 then wit t r.1 (mergeF (baseT was t r.1) r.2).1 else t
def takenF (was theirs : List Rc) : List Rc := theirs.foldl (mergeT was) []
theorem merge_hel {now : List Rc} (h : Hel now) (r : Rc) : Hel (mergeR now r) := by
 unfold mergeR
 split
 ·exact h.with _
 ·exact h
theorem mergeT_srt {was t : List Rc} (h : Srt t) (r : Rc) : Srt (mergeT was t r) := by
 unfold mergeT
 split
 ·exact h.wit _ _
 ·exact h
theorem step_same {was t now : List Rc} (h : ∀ k, getF now k = baseT was t k) (r : Rc) : ∀ k, getF (mergeR now r) k = baseT was (mergeT was t r) k := by
 intro k
 unfold mergeR mergeT
 rw [h r.1]
 by_cases hm : (mergeF (baseT was t r.1) r.2).2 = 0
 ·rw [if_pos hm, if_pos hm, get_with]
  unfold baseT
  rw [find_wit]
  by_cases hk : k = r.1
  ·rw [if_pos hk, if_pos hk]; rfl
  ·rw [if_neg hk, if_neg hk]; exact h k
 ·rw [if_neg hm, if_neg hm]
  exact h k
theorem fold_same (was : List Rc) (theirs : List Rc) : ∀ t now : List Rc, Srt t → Hel now → (∀ k, getF now k = baseT was t k) → Srt (theirs.foldl (mergeT was) t) ∧ Hel (theirs.foldl mergeR now) ∧ ∀ k, getF (theirs.foldl mergeR now) k = baseT was (theirs.foldl (mergeT was) t) k := by
 induction theirs with
 | nil => exact fun t now h1 h2 h3 => ⟨h1, h2, h3⟩
 | cons r l ih => exact fun t now h1 h2 h3 => ih _ _ (mergeT_srt h1 r) (merge_hel h2 r) (step_same h3 r)
theorem taken_same (own theirs : List Rc) : (takenF (heldF own) theirs).filter (fun r => !decide (r.2 = []) && !decide (r.2 = getF (heldF own) r.1)) = takeF own theirs := by
 obtain ⟨h1, h2, h3⟩ := fold_same (heldF own) theirs [] (heldF own) Srt.nil (held_hel own) fun _ => rfl
 unfold takeF nowF takenF
 refine srt_mem (List.Pairwise.filter _ h1) (List.Pairwise.filter _ h2.1) fun x => ?_
 rw [List.mem_filter, List.mem_filter]
 constructor
 ·rintro ⟨hx, hp⟩
  simp at hp
  have hf := find_mem h1 hx
  have hg := h3 x.1
  unfold baseT at hg
  rw [hf] at hg
  refine ⟨?_, by simpa using hp.2⟩
  unfold getF at hg
  cases h4 : find (theirs.foldl mergeR (heldF own)) x.1 with
  | none => rw [h4] at hg; exact absurd hg.symm hp.1
  | some b =>
   rw [h4] at hg
   have h5 := find_some h4
   rw [show b = x.2 from hg] at h5
   exact h5
 ·rintro ⟨hx, hp⟩
  simp at hp
  have hf := find_mem h2.1 hx
  have hg := h3 x.1
  have hne := h2.2 x hx
  unfold getF baseT at hg
  rw [hf] at hg
  cases h4 : find (theirs.foldl (mergeT (heldF own)) []) x.1 with
  | none =>
   rw [h4] at hg
   exact absurd hg hp
  | some b =>
   rw [h4] at hg
   have h5 := find_some h4
   rw [show b = x.2 from hg.symm] at h5
   exact ⟨h5, by simp [hne, hp]⟩
end Mend
end Go.Proofs.YtbhidndgnldheaaGreat

/-
 Paths: is it one, its spot, the leaves beneath, one digit more; what a hash is written as.
-/
namespace Go.Proofs.YtbhidndgnldheaaGreat
namespace Tree
open Go.RowKit Vers Num Ring Disk Blk Go.Proofs.YtbhidndgnldheaaGreat.Code
attribute [local go_sem ↓] Go.wp_at_zero Go.wp_at_succ

end Tree
end Go.Proofs.YtbhidndgnldheaaGreat
