/-
  The document's Ready.
-/
import Derived.Test.YtiempgabamheiaaInboxRefTake
namespace Go.Proofs.Ytiempgabamheiaa
namespace Inbox
open Go.RowKit Vers Span Blk
attribute [local go_sem ↓] Go.wp_at_zero Go.wp_at_succ

theorem elem_rfars : Try.prog.underlying 27 = some (.slice (Try.prog.elem 27)) := by kernel_rfl
theorem elem_rfar : Try.prog.elem 27 = 41 := by kernel_rfl
/-- The address of what stands from the m-th on. -/
def tail5 (A : Option Addr) (c m : Nat) : Option Addr := if c = m then A else A.map fun a => a.add (m * 5)
theorem rcut_h (A : Option Addr) (k c m : Nat) (hm : m ≤ k) (hk : k ≤ c) :
    ∀ V, (Instr.slice 27 (.slice A k c) none (some (.int .i64 m)) none).run Try.prog V = .ok (.slice A m c) V := fun V => by
  obtain ⟨j0, hj0, hy0, hy1, hy2⟩ := info_parts info_rfar
  have hs := run_slice_h (P := Try.prog) V 27 A k c elem_rfars .i64 (m : Int) (by omega) (by omega)
  rw [hs, elem_rfar]
  simp only [sizeOf, typeInfo, Sem.run_bind, Sem.run_pure, sliced, Int.toNat_natCast, Nat.sub_zero]
  simp [go_sem, hj0, hy1]
theorem rcut_l (A : Option Addr) (k c m : Nat) (hm : m ≤ k) :
    ∀ V, (Instr.slice 27 (.slice A k c) (some (.int .i64 m)) none none).run Try.prog V = .ok (.slice (tail5 A c m) (k - m) (c - m)) V := fun V => by
  obtain ⟨j0, hj0, hy0, hy1, hy2⟩ := info_parts info_rfar
  have hs := run_slice_l (P := Try.prog) V 27 A k c elem_rfars .i64 (m : Int) (by omega) (by omega)
  rw [hs, elem_rfar]
  simp only [sizeOf, typeInfo, Sem.run_bind, Sem.run_pure, sliced, Int.toNat_natCast]
  simp [go_sem, hj0, hy1, tail5]
section
variable {Pg : Program} (w : World)
/-- append of a part of a row of far writes onto a row of the call's own. -/
theorem wpList_append_fs {ops : Array Oper} {rest : List Oper} {o : Oper} {a : Act} {Q : Exit → Act → World → Prop} (hgd : o.guard = none) (s x : Operand) (t : TypeId)
    (ho : o.op = .call { callee := .builtin .append, args := #[s, x], argTypes := #[t, t] })
    (base : Nat) (e : TypeId) (i : TypeInfo) (z : Value) (bytes : Nat) (ht : Pg.underlying t = some (.slice e)) (hi : Pg.info? e = some i) (hz : i.zero = some z)
    (hsize : i.size = 5) (hby : i.bytes = bytes) (hzs : z.cells.size = 5)
    (v : Value) (n : Nat) (l : List FE) (hs : a.eval s = v) (hown : w.ownsRow base e 5 v n (fcs l)) (ad : Addr) (m c : Nat) (ys : List FE) (hm : ys.length = m)
    (hx : a.eval x = .slice (some ad) m c) (hcells : ∀ j u, (fcs ys)[j]? = some u → w.cell? (ad.add j) = some u)
    (hbytes : (n + m) * bytes ≤ 140737488355328) (hn : n + m ≤ 140737488355328) (hbase : base ≤ w.heap.size)
    (h : ∀ v' w', w'.ownsRow base e 5 v' (n + m) (fcs (l ++ ys)) → w.grownBy w' v.ownBlock → (v'.ownBlock = v.ownBlock ∨ v'.ownBlock = some w.heap.size) → wpList Pg ops Q rest (a.put o.dst v') w') :
    wpList Pg ops Q (o :: rest) a w := by
  subst hm
  exact wpList_append_own_at w hgd s x t ho base e i z 5 bytes ht hi hz hsize hby hzs (by omega) v n (fcs l) hs hown ad ys.length c (fcs ys) hx (by rw [fcs_length]) hcells (fcs_cell ys) (by unfold maxLen; omega) hbytes hbase
    fun v' w' h1 h2 _ h4 => h v' w' (by rw [fcs_append]; exact h1) h2 h4
end
/-- Parts of an inbox's row. -/
theorem IO.part {T e : TypeId} {F : Nat → Prop} {w : World} {nb n c : Nat} {room : Int} {A : Option Addr} {l : List FE} (h : IO T e F w nb room A c n l) (hp : 0 < n) : n ≤ c ∧ ∃ g, A = some ⟨g, 0, none⟩ ∧ (∀ i j u, (fcs (l.take i))[j]? = some u → w.cell? ((⟨g, 0, none⟩ : Addr).add j) = some u) ∧ ∀ i j u, i < n → (fcs (l.drop (i + 1)))[j]? = some u → ∃ ad, tail5 (some ⟨g, 0, none⟩) c (i + 1) = some ad ∧ w.cell? (ad.add j) = some u := by
  obtain ⟨⟨_, h2⟩, ⟨h3, _⟩, _⟩ := h
  have hnc := (own_low h2).1
  obtain ⟨g, cap, hv, _, hg⟩ := h2.form hp
  injection hv with hA _ hcap
  subst hA
  subst hcap
  have hadd : ∀ b off k, (⟨b, off, none⟩ : Addr).add k = ⟨b, off + k, none⟩ := fun b off k => Vers.add_plain b off k
  have hc : ∀ j u, (fcs l)[j]? = some u → w.cell? ⟨g, j, none⟩ = some u := fun j u hu => by
    have hj : j < n * 5 := by
      rcases Nat.lt_or_ge j (n * 5) with h | h
      · exact h
      · rw [List.getElem?_eq_none (by rw [fcs_length, h3]; exact h)] at hu; cases hu
    rw [h2.cellAt j hj]
    exact hu
  refine ⟨hnc, g, rfl, fun i j u hu => ?_, fun i j u hi hu => ?_⟩
  · rw [hadd, Nat.zero_add]
    apply hc
    rw [← fcs_take] at hu
    have hj : j < i * 5 := by
      rcases Nat.lt_or_ge j (i * 5) with h | h
      · exact h
      · rw [List.getElem?_take_eq_none h] at hu; cases hu
    rwa [List.getElem?_take_of_lt hj] at hu
  · have hlt : i + 1 < n := by
      rcases Nat.lt_or_ge (i + 1) n with h | h
      · exact h
      · rw [List.drop_of_length_le (by omega)] at hu; simp [fcs] at hu
    refine ⟨⟨g, (i + 1) * 5, none⟩, ?_, ?_⟩
    · unfold tail5
      rw [if_neg (by omega), Option.map_some, hadd, Nat.zero_add]
    · rw [hadd]
      apply hc
      rw [← fcs_drop, List.getElem?_drop] at hu
      exact hu
theorem take_drop_erase {α : Type} (l : List α) (i : Nat) : l.take i ++ l.drop (i + 1) = l.eraseIdx i := (List.eraseIdx_eq_take_drop_succ ..).symm
theorem split_at {α : Type} {l : List α} {i : Nat} {x : α} (hx : l[i]? = some x) : l = l.take i ++ [x] ++ l.drop (i + 1) := by
  obtain ⟨hi, he⟩ := List.getElem?_eq_some_iff.1 hx
  rw [List.append_assoc, List.singleton_append, ← he, ← List.drop_eq_getElem_cons hi, List.take_append_drop]

set_option maxRecDepth 100000 in
set_option maxHeartbeats 2000000 in
theorem rready_any {F : Nat → Prop} {w : World} {nb : Nat} {room : Int} {P : List Fr} (h : IN 29 41 F w nb room P) (hP : ∀ y ∈ P, okF y) (hPl : P.length ≤ 1759218604390)
    (A : Option Addr) (c n : Nat) (v : List Int) (hn : v.length = n) (hbig : n ≤ 140737488355328) (hvv : Ns .i64 w w.heap.size A v) :
    Calls Try.prog 14 #[hd nb, .slice A n c] w (ReadyPost 29 41 F nb room P v w) := by
  obtain ⟨i0, hi0, hz0, hz1, hz2⟩ := info_parts info_rfar
  have HI := Lib.hid (And.intro hi0 (And.intro hz0 (And.intro hz1 hz2)))
  obtain ⟨Aw, cw, nw, l, e, hS⟩ := h
  have hlP : l.length = P.length := by rw [← e, List.length_map]
  have hnw : nw ≤ 1759218604390 := by rw [← hS.2.1.1, hlP]; exact hPl
  obtain ⟨U, hU⟩ : ∃ U, w.alloc (.cells #[.int .i64 0, .int .i64 0, .string ⟨#[]⟩, .slice none 0 0, .slice none 0 0] 41) = U := ⟨_, rfl⟩
  have bU : Below w.heap.size w U := by rw [← hU]; exact (Below.refl _ w).alloc (Nat.le_refl _) _
  have sU : U.heap.size = w.heap.size + 1 := by rw [← hU]; simp
  have BU : Bn w.heap.size 41 [.int .i64 0, .int .i64 0, .string ⟨#[]⟩, .slice none 0 0, .slice none 0 0] U := by rw [← hU]; exact heap_alloc_new w _
  have hSU := hS.below bU
  have hmem : ∀ x ∈ l, x.1 ∈ P := fun x hx => by rw [← e]; exact List.mem_map_of_mem hx
  have hnb : nb < w.heap.size := hS.lt nb hS.2.2.1
  have HB := Lib.hid (And.intro bU (And.intro BU (And.intro sU (And.intro hSU (And.intro hS.lt (And.intro hnb hmem))))))
  have HX := Lib.hid (And.intro hP (And.intro hn (And.intro hvv (And.intro e hS.2.1.1))))
  have HI0 : Hid (Below U.heap.size U U ∧ ∀ y ∈ P.take 0, decide (mayF v y) = false) := Lib.hid ⟨Below.refl _ _, by simp⟩
  clear hP e hS hlP hvv hn bU BU sU hSU hmem hnb hi0 hz0 hz1 hz2
  go_enter Try.func14, Try.ntmps14
  go_wp2_with fail
  go_loopw [6] (fun q wr => ∃ j : Nat, q = .int .i64 j ∧ j ≤ nw ∧ Hid (Below U.heap.size U wr ∧ ∀ y ∈ P.take j, decide (mayF v y) = false)) (fun q _ => nw - (intOf q).toNat)
  case atStart => exact ⟨0, rfl, by omega, HI0⟩
  case round =>
    clear HI0
    obtain ⟨j, rfl, hj, hst⟩ := hrel
    have hSr := HB.out.2.2.2.1.below hst.out.1
    have y1 := (hSr.1.1.cell 1).trans rfl
    by_cases hlt : j < nw
    · obtain ⟨x, hx⟩ : ∃ x, l[j]? = some x := ⟨l[j]'(by have := HX.out.2.2.2.2; omega), by simp⟩
      have hPx : P[j]? = some x.1 := by rw [← HX.out.2.2.2.1, List.getElem?_map, hx]; rfl
      have hxm : x.1 ∈ P := List.mem_of_getElem? hPx
      have hxo := HX.out.1 _ hxm
      obtain ⟨g, rfl, hgl, hcl, hsz1, hv1, _⟩ := hSr.at hx
      obtain ⟨hv11, hov⟩ := ok_one hxo
      obtain ⟨q, hq⟩ : ∃ q, decide (mayF v x.1) = q := ⟨_, rfl⟩
      have hnext : q = false → ∀ y ∈ P.take (j + 1), decide (mayF v y) = false := fun hf y hy => by
        obtain ⟨hjl, hje⟩ := List.getElem?_eq_some_iff.1 hPx
        rw [List.take_succ_eq_append_getElem hjl, hje] at hy
        rcases List.mem_append.1 hy with h | h
        · exact hst.out.2 y h
        · rw [List.mem_singleton.1 h, hq, hf]
      obtain ⟨⟨⟨f1, f2⟩, ⟨k1, v1⟩, rr⟩, ⟨a1, c1⟩, ⟨a2, c2⟩⟩ := x
      obtain ⟨r1, hr1⟩ : ∃ r, rr.length = r := ⟨_, rfl⟩
      have q0 : wr.cell? ⟨g, j * 5, none⟩ = some (.int .i64 f1) := hcl 0 _ rfl
      have q1 : wr.cell? ⟨g, j * 5 + 1, none⟩ = some (.int .i64 f2) := hcl 1 _ rfl
      have q2 : wr.cell? ⟨g, j * 5 + 2, none⟩ = some (.string k1) := hcl 2 _ rfl
      have q3 : wr.cell? ⟨g, j * 5 + 3, none⟩ = some (.slice a1 1 c1) := by rw [← hv11]; exact hcl 3 _ rfl
      have q4 : wr.cell? ⟨g, j * 5 + 4, none⟩ = some (.slice a2 r1 c2) := by rw [← hr1]; exact hcl 4 _ rfl
      have d1 : (0 : Int) ≤ (j : Int) := by omega
      have d2 : (j : Int) < (nw : Int) := by omega
      have hwr : Below w.heap.size w wr := HB.out.1.trans (hst.out.1.mono HB.out.1.size)
      have hMc := rmay_any f1 f2 k1 a1 c1 1 v1 hv11 (Nat.le_refl _) hov a2 r1 c2 A c n v HX.out.2.1 hbig wr hv1 ((HX.out.2.2.1.below hwr).more hwr.size)
      rw [show decide (mayV v (v1.getD 0 v0)) = q from hq] at hMc
      have HM := Lib.hid hMc
      have HJ := Lib.hid (And.intro hwr (And.intro hx (And.intro hxm (And.intro hsz1 (And.intro hv11 (And.intro hr1 (And.intro hnext (And.intro hPx hq))))))))
      have HSR := Lib.hid hSr
      clear hwr hx hxm hsz1 hv11 hr1 hnext hPx hMc hov hxo hcl hv1 hSr hq
      go_wp2_with fail
      refine HM.out.mono ?_
      rintro e w2 ⟨rfl, b2⟩
      have hb2 : Below U.heap.size U w2 := hst.out.1.trans (b2.mono hst.out.1.size)
      cases q
      · have HN := Lib.hid (And.intro hb2 (HJ.out.2.2.2.2.2.2.1 rfl))
        clear hb2 b2
        go_wp2_with fail
        exact ⟨⟨j + 1, rfl, by omega, HN⟩, by simp only [intOf]; omega⟩
      · have hS2 := HB.out.2.2.2.1.below hb2
        have hUw2 := hb2.size
        obtain ⟨hnc, g', hg', hpt, hpd⟩ := hS2.part (by omega)
        obtain rfl : g = g' := by injection hg' with hg'; injection hg'
        have y2 := (hS2.1.1.cell 1).trans rfl
        have p0 := (b2.cell (p := ⟨g, j * 5, none⟩) hgl).trans q0
        have p1 := (b2.cell (p := ⟨g, j * 5 + 1, none⟩) hgl).trans q1
        have p2 := (b2.cell (p := ⟨g, j * 5 + 2, none⟩) hgl).trans q2
        have p3 := (b2.cell (p := ⟨g, j * 5 + 3, none⟩) hgl).trans q3
        have p4 := (b2.cell (p := ⟨g, j * 5 + 4, none⟩) hgl).trans q4
        obtain ⟨W1, hW1⟩ : ∃ W, w2.alloc (.cells #[.int .i64 f1, .int .i64 f2, .string k1, .slice a1 1 c1, .slice a2 r1 c2] 41) = W := ⟨_, rfl⟩
        have b1 : Below w2.heap.size w2 W1 := by rw [← hW1]; exact (Below.refl _ w2).alloc (Nat.le_refl _) _
        have B1 : Bn w2.heap.size 41 [.int .i64 f1, .int .i64 f2, .string k1, .slice a1 1 c1, .slice a2 r1 c2] W1 := by rw [← hW1]; exact heap_alloc_new w2 _
        have bU1 : Below U.heap.size U W1 := hb2.trans (b1.mono hb2.size)
        have hS1 := HB.out.2.2.2.1.below bU1
        have y3 := (hS1.1.1.cell 1).trans rfl
        have rc1 := rcut_h (some ⟨g, 0, none⟩) nw cw j (by omega) hnc
        have rc2 := rcut_l (some ⟨g, 0, none⟩) nw cw (j + 1) (by omega)
        rw [show (((j + 1 : Nat) : Int)) = (j : Int) + 1 by omega] at rc2
        obtain ⟨ad, had⟩ : ∃ ad, tail5 (some ⟨g, 0, none⟩) cw (j + 1) = some ad := by
          unfold tail5
          split
          · exact ⟨_, rfl⟩
          · exact ⟨_, rfl⟩
        obtain ⟨nt, hnt⟩ : ∃ k, nw - (j + 1) = k := ⟨_, rfl⟩
        obtain ⟨ct, hct⟩ : ∃ k, cw - (j + 1) = k := ⟨_, rfl⟩
        rw [had, hnt, hct] at rc2
        have hc1 : ∀ i u, (fcs (l.take j))[i]? = some u → W1.cell? ((⟨g, 0, none⟩ : Addr).add i) = some u := fun i u hu => by
          have := hpt j i u hu
          rw [Vers.add_plain] at this ⊢
          exact (b1.cell (p := ⟨g, 0 + i, none⟩) (Nat.lt_of_lt_of_le hgl b2.size)).trans this
        have hc2 : ∀ V, Below w2.heap.size w2 V → ∀ i u, (fcs (l.drop (j + 1)))[i]? = some u → V.cell? (ad.add i) = some u := fun V hV i u hu => by
          obtain ⟨ad', h1, h2⟩ := hpd j i u hlt hu
          rw [had] at h1
          injection h1 with h1
          subst h1
          exact (hV.cell (World.block_lt_of_cell? _ _ h2)).trans h2
        have hl1 : (l.take j).length = j := by rw [List.length_take]; have := HX.out.2.2.2.2; omega
        have hl2 : (l.drop (j + 1)).length = nt := by rw [List.length_drop]; have := HX.out.2.2.2.2; omega
        have i1 : IntKind.i64.wrap ((j : Int) + 1) = (j : Int) + 1 := IntWalk.i64_in _ (by omega)
        have hmay : mayF v ((f1, f2), (k1, v1), rr) := of_decide_eq_true HJ.out.2.2.2.2.2.2.2.2
        have HC := Lib.hid (And.intro hc1 (And.intro hc2 (And.intro hl1 (And.intro hl2 (And.intro hnt hmay)))))
        have HW1 := Lib.hid (And.intro hW1 (And.intro b1 (And.intro B1 (And.intro bU1 hS1))))
        clear hc1 hc2 hl1 hl2 hnt hct had hpt hpd hW1 b1 B1 bU1 hS1 hS2 hb2 b2 hnc hg' hmay
        have hntb : j + nt ≤ 1759218604390 := by have := HC.out.2.2.2.2.1; omega
        have hUs : U.heap.size ≤ W1.heap.size := HW1.out.2.2.2.1.size
        go_upto_region 7 with fail
        rw [HW1.out.1]
        go_wp2_with (first
          | (at_builtin; refine wpList_append_fs _ rfl (.tmp 34) (.tmp 40) 27 rfl U.heap.size 41 i0 _ 80 Try.underlying27 HI.out.1 HI.out.2.1 HI.out.2.2.1 HI.out.2.2.2 rfl (.slice none 0 0) 0 [] rfl (World.ownsRow_nil _ _ _ _) ⟨g, 0, none⟩ j cw (l.take j) HC.out.2.2.1 rfl HC.out.1 (by omega) (by omega) hUs ?_
             intro v3 w3 o3 g3 at3
             rw [Nat.zero_add, List.nil_append] at o3
             obtain ⟨A3, c3, rfl⟩ := own_form o3
             have b3 : Below W1.heap.size W1 w3 := (Below.refl _ W1).grown g3 (Nat.le_refl _) (fun i hi => by cases hi)
             have y4 := ((HW1.out.2.2.2.2.below (b3.mono (by have := HW1.out.2.1.size; exact Nat.le_refl _))).1.1.cell 1).trans rfl
             have H3 := Lib.hid (And.intro o3 (And.intro b3 (And.intro (HC.out.2.1 w3 (HW1.out.2.1.trans (b3.mono HW1.out.2.1.size))) at3)))
             have hs3 := b3.size
             clear o3 g3 at3 b3)
          | (at_builtin; refine wpList_append_fs _ rfl (.tmp 43) (.tmp 50) 27 rfl U.heap.size 41 i0 _ 80 Try.underlying27 HI.out.1 HI.out.2.1 HI.out.2.2.1 HI.out.2.2.2 rfl (.slice A3 j c3) j (l.take j) rfl H3.out.1 ad nt ct (l.drop (j + 1)) HC.out.2.2.2.1 rfl H3.out.2.2.1 (by omega) (by omega) (by omega) ?_
             intro v5 w5 o5 g5 at5
             obtain ⟨A5, c5, rfl⟩ := own_form o5
             rw [take_drop_erase] at o5
             have bU3 : Below U.heap.size U w3 := HW1.out.2.2.2.1.trans (H3.out.2.1.mono hUs)
             have b5 : Below U.heap.size U w5 := bU3.grown g5 bU3.size (fun i hi => (H3.out.1.lt i hi).1)
             have hS5 := HB.out.2.2.2.1.below b5
             have y5 := (hS5.1.1.cell 1).trans rfl
             have f5 := hS5.1.1.frozen 1
             have BL := HW1.out.2.2.1.same (H3.out.2.1.block _ HW1.out.2.2.1.lt)
             have BL5 := BL.kept g5 (fun q => by
               have h1 := HW1.out.2.2.1.lt
               rcases H3.out.2.2.2 with h | h
               · rw [h] at q; cases q
               · rw [h] at q; injection q with q; omega)
             obtain ⟨X, hX⟩ : ∃ X, w5.setCell ⟨nb, 1, none⟩ (.slice A5 (j + nt) c5) = X := ⟨_, rfl⟩
             have gX := gset w5 nb 1 (.slice A5 (j + nt) c5)
             rw [hX] at gX
             have BLX := BL5.kept gX (fun q => by injection q with q; have h1 := HB.out.2.2.2.2.2.1; have h3 := HB.out.2.2.1; omega)
             have hfin := HB.out.2.2.2.1.relist b5 o5 (by rw [← take_drop_erase, List.length_append, HC.out.2.2.1, HC.out.2.2.2.1]) (fun x hx => List.mem_of_mem_eraseIdx hx)
             rw [hX] at hfin
             have BRX := (HB.out.2.1.same (b5.block _ (by have := HB.out.2.2.1; omega))).kept gX (fun q => by injection q with q; have h1 := HB.out.2.2.2.2.2.1; omega)
             have x0 := (BRX.cell 0).trans rfl
             have x1 := (BRX.cell 1).trans rfl
             have x2 := (BRX.cell 2).trans rfl
             have x3 := (BRX.cell 3).trans rfl
             have x4 := (BRX.cell 4).trans rfl
             have xf0 := BRX.frozen 0
             have xf1 := BRX.frozen 1
             have xf2 := BRX.frozen 2
             have xf3 := BRX.frozen 3
             have xf4 := BRX.frozen 4
             have BY := five_bn BRX (.int .i64 f1) (.int .i64 f2) (.string k1) (.slice a1 1 c1) (.slice a2 r1 c2)
             have gY := five_grown X w.heap.size (.int .i64 f1) (.int .i64 f2) (.string k1) (.slice a1 1 c1) (.slice a2 r1 c2)
             obtain ⟨Y, hY⟩ : ∃ Y, five X w.heap.size (.int .i64 f1) (.int .i64 f2) (.string k1) (.slice a1 1 c1) (.slice a2 r1 c2) = Y := ⟨_, rfl⟩
             rw [hY] at BY gY
             unfold five at hY
             have t0 := (BY.cell 0).trans rfl
             have t1 := (BY.cell 1).trans rfl
             have t2 := (BY.cell 2).trans rfl
             have t3 := (BY.cell 3).trans rfl
             have t4 := (BY.cell 4).trans rfl
             have H5 := Lib.hid (And.intro hfin (And.intro b5 (And.intro gX gY)))
             have z0 := (BLX.cell 0).trans rfl
             have z1 := (BLX.cell 1).trans rfl
             have z2 := (BLX.cell 2).trans rfl
             have z3 := (BLX.cell 3).trans rfl
             have z4 := (BLX.cell 4).trans rfl
             clear o5 g5 at5 bU3 b5 hS5 BL BL5 gX BLX hfin BRX BY gY))
        have hR : ReadyPost 29 41 F nb room P v w (.returned (.tuple #[.agg #[.int .i64 f1, .int .i64 f2, .string k1, .slice a1 1 c1, .slice a2 r1 c2], .bool true])) Y := by
          obtain ⟨hfin, b5, gX, gY⟩ := H5.out
          have hsU := HB.out.2.2.1
          have hcY : Chg (fun k => k = w.heap.size) X Y := Chg.of_grown gY fun g hg => by injection hg with hg; exact hg.symm
          have hcX : Chg F U X := (Chg.of_below b5).trans (Chg.of_grown gX fun g hg => by injection hg with hg; subst hg; exact HB.out.2.2.2.1.2.2.1) fun i hi => .inl hi
          have hF : ∀ k, (F k ∨ (U.heap.size ≤ k ∧ k < w5.heap.size)) → ¬ k = w.heap.size := fun k hk q => by
            rcases hk with h | h
            · have := HB.out.2.2.2.2.1 k h
              omega
            · omega
          obtain ⟨hwr, hx, hxm, hsz1, hv11, hr1, hnext, hPx, hq⟩ := HJ.out
          have hdr := ready_past (fun x => decide (mayF v x)) (P.take j) _ hst.out.2 (show decide (mayF v ((f1, f2), (k1, v1), rr)) = true by rw [decide_eq_true_iff]; exact HC.out.2.2.2.2.2) (P.drop (j + 1))
          rw [← split_at hPx, take_drop_erase] at hdr
          obtain ⟨s1, L, B, g1, g2, g3⟩ := HB.out.2.2.2.1.2.1.2 _ (List.mem_of_getElem? hx)
          have hs5 := b5.size
          have hsX := gX.size
          have hsY := gY.size
          have g4 := ((g1.heap fun k a b => b5.block k (by omega)).heap fun k a b => gX.block k (by omega) (fun q => (g3 k a b).2.1 (by injection q))).heap fun k a b => gY.block k (by omega) (fun q => by injection q with q; have := HB.out.2.2.2.2.1 k (g3 k a b).1; omega)
          refine ⟨⟨fun k => F k ∨ (U.heap.size ≤ k ∧ k < w5.heap.size), Lib.hid ⟨?_, ?_⟩⟩, .inr ⟨((f1, f2), (k1, v1), rr), a1, c1, a2, c2, r1, rfl, Lib.hid ⟨by rw [hdr], hr1, hxm, HC.out.2.2.2.2.2, s1, L, B, g4, by omega, fun k a b => (g3 k a b).1⟩⟩⟩
          · rw [hdr]
            refine ⟨_, _, _, l.eraseIdx j, ?_, hfin.chg hcY hF⟩
            rw [List.eraseIdx_eq_take_drop_succ, List.eraseIdx_eq_take_drop_succ, List.map_append, List.map_take, List.map_drop, HX.out.2.2.2.1]
          · exact ⟨((Chg.of_below HB.out.1).trans hcX fun k hk => .inl hk).trans hcY fun k hk => .inr (by omega), fun k hk => hk.imp id fun q => by omega⟩
        have HR := Lib.hid hR
        clear hR
        refine bodyPost_ret (v := .tuple #[.agg #[.int .i64 f1, .int .i64 f2, .string k1, .slice a1 1 c1, .slice a2 r1 c2], .bool true]) ?_ rfl HR.out
        rw [results_cell_tmp rfl]
        go_simp
    · obtain rfl : j = nw := by omega
      have BR := HB.out.2.1.same (hst.out.1.block _ (by have := HB.out.2.2.1; omega))
      have x0 := (BR.cell 0).trans rfl
      have x1 := (BR.cell 1).trans rfl
      have x2 := (BR.cell 2).trans rfl
      have x3 := (BR.cell 3).trans rfl
      have x4 := (BR.cell 4).trans rfl
      have xf0 := BR.frozen 0
      have xf1 := BR.frozen 1
      have xf2 := BR.frozen 2
      have xf3 := BR.frozen 3
      have xf4 := BR.frozen 4
      have BY := five_bn BR (.int .i64 0) (.int .i64 0) (.string ⟨#[]⟩) (.slice none 0 0) (.slice none 0 0)
      have gY := five_grown wr w.heap.size (.int .i64 0) (.int .i64 0) (.string ⟨#[]⟩) (.slice none 0 0) (.slice none 0 0)
      obtain ⟨Y, hY⟩ : ∃ Y, five wr w.heap.size (.int .i64 0) (.int .i64 0) (.string ⟨#[]⟩) (.slice none 0 0) (.slice none 0 0) = Y := ⟨_, rfl⟩
      rw [hY] at BY gY
      unfold five at hY
      have t0 := (BY.cell 0).trans rfl
      have t1 := (BY.cell 1).trans rfl
      have t2 := (BY.cell 2).trans rfl
      have t3 := (BY.cell 3).trans rfl
      have t4 := (BY.cell 4).trans rfl
      have hR : ReadyPost 29 41 F nb room P v w (.returned (.tuple #[.agg #[.int .i64 0, .int .i64 0, .string ⟨#[]⟩, .slice none 0 0, .slice none 0 0], .bool false])) Y := by
        have hsU := HB.out.2.2.1
        have hcY : Chg (fun k => k = w.heap.size) wr Y := Chg.of_grown gY fun g hg => by injection hg with hg; exact hg.symm
        have hdr := ready_none (fun x => decide (mayF v x)) P fun y hy => hst.out.2 y (by rw [List.take_of_length_le (by have h1 := HX.out.2.2.2.1; have h2 := HX.out.2.2.2.2; rw [← h1, List.length_map]; omega)]; exact hy)
        refine ⟨⟨F, Lib.hid ⟨?_, ?_, fun k hk => .inl hk⟩⟩, .inl ⟨by rw [hdr], rfl⟩⟩
        · rw [hdr]
          exact ⟨_, _, _, l, HX.out.2.2.2.1, hSr.chg hcY fun k hk q => by have := HB.out.2.2.2.2.1 k hk; omega⟩
        · exact (Chg.of_below (HB.out.1.trans (hst.out.1.mono HB.out.1.size))).trans hcY fun k hk => .inr (by omega)
      have HR := Lib.hid hR
      clear hR BY gY BR
      go_wp2_with fail
      refine bodyPost_ret (v := .tuple #[.agg #[.int .i64 0, .int .i64 0, .string ⟨#[]⟩, .slice none 0 0, .slice none 0 0], .bool false]) ?_ rfl HR.out
      rw [results_cell_tmp rfl]
      go_simp
end Inbox
end Go.Proofs.Ytiempgabamheiaa
