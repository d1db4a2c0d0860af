/-
  sess: Lost.
-/
import Derived.Test.YtnmkhccgaedigaaSessRefLost
namespace Go.Proofs.Ytnmkhccgaedigaa
namespace Sess
open Go.RowKit Blk Go.Maps
attribute [local go_sem ↓] Go.wp_at_zero Go.wp_at_succ
/-- A delete in a region that draws. -/
theorem step_delete_own {H : Type} {P : Program} (w : World) {ops : Array Oper} {o : Oper} {a : Act} {K : Act → World → Prop} {Q : Exit → Act → World → Prop} {E : Prop} (hg : o.guard = none) (m x : Operand) (t k : TypeId) (hop : o.op = Op.call { callee := Callee.builtin Builtin.delete, args := #[m, x], argTypes := #[t, k] })
    (e : TypeId) (K0 : Keyed P k) (ht : P.underlying t = some (.map k e)) (R : Value → Option (DataW H × List MemPlace)) (b n : Nat) (D : DataW H)
    (hm : a.eval m = .map (some b)) (hown : w.ownsMap P k R b n D) (key : Value) (kl : Lit) (hx : a.eval x = key) (hkey : keyOf P k key = some kl)
    (h : ∀ w', w'.ownsMap P k R b n (D.del kl) → w.mapTurned w' b → K (a.put o.dst (.tuple #[])) w') :
    if Region.wanted o (yielded ops a.tmps) = true then Oper.wp P o a w K Q else E := by
  have hw : Region.wanted o (yielded ops a.tmps) = true := by simp [Region.wanted, hg]
  rw [if_pos hw]
  obtain ⟨w', hrun, r1, r2⟩ := hown.drop K0 ht hkey o.type
  unfold Oper.wp
  simp [execOp, hop, resolve, invoke, builtin, hm, hx, hrun, Result.andThen]
  exact h w' r1 r2
section
variable {F : Nat → Prop} {w : World} {sb m : Nat} {N : Int} {L : List Sn}
set_option maxRecDepth 100000 in
set_option maxHeartbeats 1000000 in
theorem lost_any (h : SI F w sb N L m) (hn : L.length ≤ 3000000000000) (site : Int) :
    Calls Try.prog 17 #[hd sb, .int .i64 site] w (fun e w' => Ops w (lostO L site) e w' ∧ SI F w' sb N (lostF L site) m ∧ Stp F w F w') := by
  obtain ⟨mb, A, c, es0, D0, hS, hM, hI⟩ := h
  obtain ⟨n, hnn⟩ : ∃ n, L.length = n := ⟨_, rfl⟩
  rw [hnn] at hn hS
  have c1 := hS.1.1.cell 1
  simp only [List.getElem?_cons_zero, List.getElem?_cons_succ] at c1
  obtain ⟨i0, hi0, hz0, hz1, hz2⟩ := info_parts info_i64
  have HH := Lib.hid (And.intro hS (And.intro hM (And.intro hI (And.intro hnn (fun k (hk : F k) => hS.lt k hk)))))
  clear hS hM hI hnn
  go_enter Try.func17, Try.ntmps17
  go_wp2_with fail
  go_loopw [5, 7, 13] (fun v _ q wr => ∃ (k r : Nat) (Aq : Option Addr) (cq : Nat), v = .slice Aq r cq ∧ q = .int .i64 k ∧ k ≤ n ∧ r ≤ k ∧ Hid ((lostO (L.take k) site).length = r ∧ wr.ownsRow w.heap.size 2 1 (.slice Aq r cq) r (nums .i64 (lostO (L.take k) site)) ∧ (∃ es D, SO F wr sb mb N A c n es (lostK L site k) m D ∧ MapIs D (lostK L site k) ∧ InvS N (lostK L site k)) ∧ Stp F w F wr)) (fun _ _ q _ => n - (intOf q).toNat)
  case atStart => exact ⟨0, 0, none, 0, rfl, rfl, by omega, by omega, Lib.hid ⟨rfl, World.ownsRow_nil _ _ _ _, by rw [lostK_zero]; exact ⟨_, _, HH.out.1, HH.out.2.1, HH.out.2.2.1⟩, Stp.refl _ _⟩⟩
  case round =>
    obtain ⟨k, r, Aq, cq, rfl, rfl, hk, hm, hst⟩ := hrel
    by_cases hlt : k < n
    · have hkl : k < L.length := by have := HH.out.2.2.2.1; omega
      obtain ⟨x, hx⟩ : ∃ x, L[k]? = some x := ⟨_, List.getElem?_eq_getElem hkl⟩
      have hxk := lostK_at (site := site) hx
      obtain ⟨es, D, hS, hM, hI⟩ := hst.out.2.2.1
      obtain ⟨x', e, hx', he, hse⟩ := hS.at hlt
      rw [hxk] at hx'
      injection hx' with hx'
      subst hx'
      obtain ⟨g, cap, hv, _, hg⟩ := hS.1.2.1.form (by omega)
      injection hv with hA _ hcap
      have hp : (ptrs es)[k]? = some (ptr e) := by unfold ptrs; rw [List.getElem?_map, he]; rfl
      have cp : wr.cell? ⟨g, k, none⟩ = some (.pointer (some ⟨e.1, 0, none⟩)) := by
        have h := hS.1.2.1.cells (g := g) (by rw [hA]; rfl) k (ptr e) hp
        have hadd : (⟨g, 0, none⟩ : Addr).add k = ⟨g, k, none⟩ := by unfold Addr.add; split <;> simp_all
        rwa [hadd] at h
      subst hA hcap
      have d0 := hse.1.cell 0
      have d2 := hse.1.cell 2
      unfold cellsS at d0 d2
      simp only [List.getElem?_cons_succ, List.getElem?_cons_zero] at d0 d2
      have z1 : (0 : Int) ≤ (k : Int) := by omega
      have z2 : (k : Int) < (n : Int) := by omega
      have e3 : IntKind.i64.wrap ((k : Int) + 1) = (k : Int) + 1 := Go.IntWalk.i64_in _ (by omega)
      have hop := (hI.1 x (List.mem_of_getElem? hxk)).2
      have HC := Lib.hid (And.intro hS (And.intro hM (And.intro hI (And.intro he (And.intro hse (And.intro hop (And.intro hx hxk)))))))
      by_cases hs : x.1 = site
      · have o1 : (x.1 == site) = true := by simp [hs]
        by_cases ho : x.2.2 = 0
        · have o2 : (x.2.2 == 0) = true := by simp [ho]
          have o3 : (x.2.2 != 0) = false := by simp [ho]
          have hP : lostP site x = false := by simp [lostP, ho]
          have HN := Lib.hid (And.intro (lostO_same hx hP) (lostK_same hx hP))
          clear hx hop ho hP hS hM hI he hse hg hp hxk hkl
          go_wp2_with fail
          exact ⟨⟨k + 1, r, Aq, cq, rfl, rfl, by omega, by omega, Lib.hid (by rw [HN.out.1, HN.out.2]; exact hst.out)⟩, by simp only [intOf]; omega⟩
        · have o2 : (x.2.2 == 0) = false := by simp [ho]
          have o3 : (x.2.2 != 0) = true := by simp [ho]
          have hP : lostP site x = true := by simp [lostP, ho, hs]
          have HN := Lib.hid (And.intro (lostO_next hx hP) (And.intro (lostK_next (site := site) hx) (lostS_is hP)))
          have hkey := key64 x.2.2 (by omega)
          have HK := Lib.hid (And.intro hkey ho)
          clear hx hop ho hP hS hM hI he hse hg hp hxk hkl hkey
          go_wp2_with (at_builtin; go_loud (refine wpList_append_lies _ (by rfl) _ _ _ (by rfl) w.heap.size 2 i0 _ 1 8 Try.underlying48 hi0 hz0 hz1 hz2 (by rfl) (by omega) (.slice Aq r cq) r (nums .i64 (lostO (L.take k) site)) (by rfl) (own_below hst.out.2.1 ((Below.refl _ _).alloc (Nat.le_refl _) _) (Nat.le_refl _)) ⟨_, 0, none⟩ 1 1 [.int .i64 x.2.2] (by rfl) (by rfl) (World.news_of_block (heap_alloc_new _ _)) (by simp [Value.oneCell']) (by omega) (by unfold maxLen; omega) (by omega) (Nat.le_trans hst.out.2.2.2.1.size (by simp)) _ rfl ?_); intro g7 cap7 w7 o7 gr7 at7 hl7; have C7 : Chg (fun j => w.heap.size ≤ j) wr w7 := (Chg.of_below ((Below.refl _ _).alloc (Nat.le_refl _) _)).trans (Chg.of_grown gr7 fun q hq => (hst.out.2.1.lt q hq).1) fun _ => .inl; have S7 := HC.out.1.chg C7 (fun j hj hh => by have := HH.out.2.2.2.2 j hj; omega); have k2 := S7.1.1.cell 2; simp only [List.getElem?_cons_zero, List.getElem?_cons_succ] at k2; have b7 := (S7.2.1.2.2.2 k x e HC.out.2.2.2.2.2.2.2 HC.out.2.2.2.1).1; have k3 := b7.cell 2; unfold cellsS at k3; simp only [List.getElem?_cons_succ, List.getElem?_cons_zero] at k3; have HR7 := Lib.hid (And.intro (S7.below (Below.refl _ _).drew) (And.intro o7 C7)); clear S7 C7 o7 gr7 at7 b7)
          go_region_held3 (fun V => V.cell? ⟨sb, 2, none⟩ = some (.map (some mb)) ∧ V.cell? ⟨e.1, 2, none⟩ = some (.int .i64 x.2.2)) (first | exact ⟨k2, k3⟩ | exact ⟨q2, q3⟩)
            (first | (refine step_delete_own _ (by rfl) _ _ 60 2 (by rfl) 3 law64 Try.underlying60 _ mb m D (by rfl) HR7.out.1.1.2.2 _ _ (by rfl) HK.out.1 ?_; intro w4 hown4 hturn4; have S4 := HR7.out.1.mapped hturn4.grown hown4; have q2 := S4.1.1.cell 2; simp only [List.getElem?_cons_zero, List.getElem?_cons_succ] at q2; have b4 := (S4.2.1.2.2.2 k x e HC.out.2.2.2.2.2.2.2 HC.out.2.2.2.1).1; have q3 := b4.cell 2; unfold cellsS at q3; simp only [List.getElem?_cons_succ, List.getElem?_cons_zero] at q3; have q4 := b4.frozen 2; have HS4 := Lib.hid (And.intro S4 hturn4.grown); clear S4 b4 hown4 hturn4))
          all_goals
            go_wp2_with fail
            have CF : Chg F w7 (w4.setCell ⟨e.1, 2, none⟩ (.int .i64 0)) := ((Chg.of_below (Below.refl _ w7).drew).trans (Chg.of_grown (F := F) HS4.out.2 fun q hq => by injection hq with hq; subst hq; exact HS4.out.1.2.2.2.1) fun _ => .inl).trans (Chg.of_grown (F := F) (gset w4 e.1 2 (.int .i64 0)) fun q hq => by injection hq with hq; subst hq; exact HC.out.2.2.2.2.1.2.2.1) fun _ => .inl
            refine ⟨⟨k + 1, r + 1, some ⟨g7, 0, none⟩, cap7, rfl, rfl, by omega, by omega, Lib.hid ⟨?_, ?_, ?_, ?_⟩⟩, by simp only [intOf]; omega⟩
            · rw [HN.out.1, List.length_append, hst.out.1]
              rfl
            · rw [HN.out.1, nums_snoc]
              exact own_keep HR7.out.2.1 fun q hq => CF.block q (HR7.out.2.1.lt q hq).2 fun hG => by have := HH.out.2.2.2.2 q hG; have := (HR7.out.2.1.lt q hq).1; omega
            · rw [HN.out.2.1, HN.out.2.2]
              exact ⟨_, _, HS4.out.1.setOp HC.out.2.2.2.2.2.2.2 HC.out.2.2.2.1 0, map_end HC.out.2.2.1 HC.out.2.1 HC.out.2.2.2.2.2.2.2 rfl HK.out.2 x.2.1, inv_end HC.out.2.2.1 HC.out.2.2.2.2.2.2.2 x.2.1 HC.out.2.2.2.2.2.1.2⟩
            · exact ⟨(hst.out.2.2.2.1.trans HR7.out.2.2 fun _ => .inr).trans CF fun _ => .inl, fun _ => .inl⟩
      · have o1 : (x.1 == site) = false := by simp [hs]
        have hP : lostP site x = false := by simp [lostP, hs]
        have HN := Lib.hid (And.intro (lostO_same hx hP) (lostK_same hx hP))
        clear hx hop hP hS hM hI he hse hg hp hxk hkl
        go_wp2_with fail
        exact ⟨⟨k + 1, r, Aq, cq, rfl, rfl, by omega, by omega, Lib.hid (by rw [HN.out.1, HN.out.2]; exact hst.out)⟩, by simp only [intOf]; omega⟩
    · obtain rfl : k = n := by omega
      have hLT : L.take k = L := List.take_of_length_le (by have := HH.out.2.2.2.1; omega)
      have hLK : lostK L site k = lostF L site := by have := HH.out.2.2.2.1; subst this; exact lostK_all L site
      rw [hLT, hLK] at hst
      clear hLT hLK
      go_wp2_with fail
      go_ret
      obtain ⟨es, D, hS, hM, hI⟩ := hst.out.2.2.1
      refine ⟨⟨Aq, cq, ?_, Lib.hid ?_⟩, ⟨mb, A, c, es, D, ?_, hM, hI⟩, hst.out.2.2.2⟩
      · rw [hst.out.1]
        rfl
      · rw [hst.out.1]
        exact hst.out.2.1
      · rw [lostF, List.length_map, HH.out.2.2.2.1]
        exact hS
end
end Sess
end Go.Proofs.Ytnmkhccgaedigaa
