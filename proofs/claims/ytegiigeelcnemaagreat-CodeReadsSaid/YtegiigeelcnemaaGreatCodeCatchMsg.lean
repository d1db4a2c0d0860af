/-
  code.Msg: the reader's panic is caught; what a message that is read holds.
-/
import Derived.Test.YtegiigeelcnemaaGreatCodeRdMsg
import Derived.Test.YtegiigeelcnemaaGreatGCodeA
namespace Go.Proofs.YtegiigeelcnemaaGreat
namespace Code
open Go.RowKit Num Span Vers
attribute [local go_sem ↓] Go.wp_at_zero Go.wp_at_succ

theorem Par.list2 {zs : List Int} {α : Type} {P : Nat → Option (α × Nat)} {enc : α → List Int} {ok gets : α → Prop} (h : Par zs P enc ok gets) (hby : ∀ z ∈ zs, 0 ≤ z ∧ z ≤ 255) (hb : zs.length ≤ 4294967296) :
    Par zs (seqP P zs) (seqL enc) (fun l => ∀ x ∈ l, ok x) (fun l => l.length ≤ zs.length ∧ ∀ x ∈ l, gets x) where
  put := fun l p hg hk hs => (h.list hby hb).put l p ⟨by have := hg.1; omega, hg.2⟩ hk hs
  goes := (h.list hby hb).goes
  got := fun l p q hp hx => ⟨by have := seqP_len hby (fun x p q hp h' => h.goes x p q hp h') hp hx; omega, ((h.list hby hb).got l p q hp hx).2⟩
  back := (h.list hby hb).back
theorem par_rec2 {zs : List Int} (hby : ∀ z ∈ zs, 0 ≤ z ∧ z ≤ 255) (hb : zs.length ≤ 4294967296) : Par zs (recP zs) recL okR (fun r => r.1.size ≤ 32 ∧ r.2.length ≤ zs.length) where
  put := fun x p _ hk hs => recP_put (by omega) x p hk hs
  goes := fun x p q hp h => (recP_ok hby x p q hp h).1
  got := fun x p q hp h => (recP_ok hby x p q hp h).2.1
  back := fun x p q hp h => (recP_ok hby x p q hp h).2.2
/-- What a message that is read holds. -/
theorem msgP_gets {zs : List Int} (hby : ∀ z ∈ zs, 0 ≤ z ∧ z ≤ 255) (hb : zs.length ≤ 4294967296) {m : Ms} {p q : Nat} (hp : p ≤ zs.length) (h : msgP zs p = some (m, q)) :
    (p < q ∧ q ≤ zs.length) ∧ m.2.2.2.2.2.2.2.1.size ≤ 32 ∧ m.2.2.2.2.2.2.2.2.1.length ≤ zs.length ∧ ∀ x ∈ m.2.2.2.2.2.2.2.2.1, x.1.size ≤ 32 ∧ x.2.length ≤ zs.length := by
  have hP := (par_up (m := 2147483647) hby (by omega)).pair ((par_addr hby).pair ((par_addr hby).pair ((par_num hby).pair ((par_num hby).pair ((par_up (m := 2147483647) hby (by omega)).pair ((par_up (m := 2147483647) hby (by omega)).pair ((par_str hby hb).pair (((par_rec2 hby hb).list2 hby hb).pair (((par_num hby).list hby hb).pair (((par_up (m := 2147483647) hby (by omega)).list hby hb).pair (((par_hsh hby).list hby hb).pair ((par_up (m := 2147483647) hby (by omega)).list hby hb))))))))))))
  have h1 := hP.goes m p q hp h
  have h2 := hP.got m p q hp h
  obtain ⟨g1, g2, g3, g4, g5, g6, g7, g8, g9, g10⟩ := h2
  exact ⟨h1, g8, g9.1, g9.2⟩

def m0 : Ms := (0, (0, 0), (0, 0), 0, 0, 0, 0, ⟨#[]⟩, [], [], [], [], [])
def pl0 : Pl := ((none, 0), (none, 0), (none, 0), (none, 0), (none, 0))
theorem msgO_zero (B : Nat) (w : World) : MsgO B w m0 pl0 := ⟨⟨Nat.le_refl _, [], rfl, rowR_nil _ _ _⟩, World.ownsRow_nil _ _ _ _, World.ownsRow_nil _ _ _ _, World.ownsRow_nil _ _ _ _, World.ownsRow_nil _ _ _ _⟩

set_option maxRecDepth 100000 in
set_option maxHeartbeats 4000000 in
theorem catch_msg (base bx be : Nat) (hne : bx ≠ be) (x0 x1 x2 x3 x4 x5 x6 x7 x8 x9 x10 x11 x12 x13 x14 : Value) (e0 : Value) (w : World) (hbx : base ≤ bx) (hbe : base ≤ be) (hx : Bn bx 45 [x0, x1, x2, x3, x4, x5, x6, x7, x8, x9, x10, x11, x12, x13, x14] w) (he : Boxed w be 26 e0) :
    CallsD Tryz.prog 93 #[.pointer (some ⟨bx, 0, none⟩), .pointer (some ⟨be, 0, none⟩)] (.panicking [{ v := spoiltV, recovered := false }]) w fun e u' w' =>
      e = .returned (.tuple #[]) ∧ u' = .panicking [{ v := spoiltV, recovered := true }] ∧ Hid (Below base w w') ∧ Bn bx 45 [.int .i64 0, .int .i64 0, .int .i64 0, .int .i64 0, .int .i64 0, .int .i64 0, .int .i64 0, .int .i64 0, .int .i64 0, .string ⟨#[]⟩, .slice none 0 0, .slice none 0 0, .slice none 0 0, .slice none 0 0, .slice none 0 0] w' ∧ Boxed w' be 26 (.int .i64 2) := by
  obtain ⟨W, hW⟩ : ∃ W, (w.alloc (.cells #[] 114)).alloc (.cells #[.int .i64 0, .int .i64 0, .int .i64 0, .int .i64 0, .int .i64 0, .int .i64 0, .int .i64 0, .int .i64 0, .int .i64 0, .string ⟨#[]⟩, .slice none 0 0, .slice none 0 0, .slice none 0 0, .slice none 0 0, .slice none 0 0] 45) = W := ⟨_, rfl⟩
  have lw : base ≤ w.heap.size := Nat.le_trans hbx (Nat.le_of_lt hx.lt)
  have hx1 : Bn bx 45 [x0, x1, x2, x3, x4, x5, x6, x7, x8, x9, x10, x11, x12, x13, x14] W := by rw [← hW]; exact (hx.kept (World.grownBy_alloc _ _ none) (by simp)).kept (World.grownBy_alloc _ _ none) (by simp)
  have he1 : Boxed W be 26 e0 := by rw [← hW]; exact (he.alloc _).alloc _
  have hN : Bn (w.heap.size + 1) 45 [.int .i64 0, .int .i64 0, .int .i64 0, .int .i64 0, .int .i64 0, .int .i64 0, .int .i64 0, .int .i64 0, .int .i64 0, .string ⟨#[]⟩, .slice none 0 0, .slice none 0 0, .slice none 0 0, .slice none 0 0, .slice none 0 0] W := by
    rw [← hW]
    have h := heap_alloc_new (w.alloc (.cells #[] 114)) (.cells #[.int .i64 0, .int .i64 0, .int .i64 0, .int .i64 0, .int .i64 0, .int .i64 0, .int .i64 0, .int .i64 0, .int .i64 0, .string ⟨#[]⟩, .slice none 0 0, .slice none 0 0, .slice none 0 0, .slice none 0 0, .slice none 0 0] 45)
    rw [World.size_alloc] at h
    exact h
  obtain ⟨X, hX⟩ : ∃ X, W.setCells bx 0 [.int .i64 0, .int .i64 0, .int .i64 0, .int .i64 0, .int .i64 0, .int .i64 0, .int .i64 0, .int .i64 0, .int .i64 0, .string ⟨#[]⟩, .slice none 0 0, .slice none 0 0, .slice none 0 0, .slice none 0 0, .slice none 0 0] = X := ⟨_, rfl⟩
  have hxX : Bn bx 45 [.int .i64 0, .int .i64 0, .int .i64 0, .int .i64 0, .int .i64 0, .int .i64 0, .int .i64 0, .int .i64 0, .int .i64 0, .string ⟨#[]⟩, .slice none 0 0, .slice none 0 0, .slice none 0 0, .slice none 0 0, .slice none 0 0] X := by rw [← hX]; exact setCells_all (old := [x0, x1, x2, x3, x4, x5, x6, x7, x8, x9, x10, x11, x12, x13, x14]) rfl hx1
  have hgX : W.grownBy X (some bx) := by rw [← hX]; exact setCells_grown _ _ _ _
  have heX : Boxed X be 26 e0 := he1.kept hgX (by simpa using Ne.symm hne)
  have hBW : Below base w W := by rw [← hW]; exact ((Below.refl base w).alloc lw _).alloc (by simp; omega) _
  have hBX : Below base w X := hBW.grown hgX (Nat.le_trans lw hBW.size) (fun k hk => by injection hk with hk; omega)
  have hB : Hid (Below base w (X.setCell ⟨be, 0, none⟩ (.int .i64 2))) := Lib.hid (hBX.setCell (p := ⟨be, 0, none⟩) hbe _)
  have h3 := heX.cell
  have h4 := heX.frozen
  have h5 : Bn bx 45 [.int .i64 0, .int .i64 0, .int .i64 0, .int .i64 0, .int .i64 0, .int .i64 0, .int .i64 0, .int .i64 0, .int .i64 0, .string ⟨#[]⟩, .slice none 0 0, .slice none 0 0, .slice none 0 0, .slice none 0 0, .slice none 0 0] (X.setCell ⟨be, 0, none⟩ (.int .i64 2)) := hxX.kept (grown_set1 _ _ _ _) (by simpa using hne)
  have h6 : Boxed (X.setCell ⟨be, 0, none⟩ (.int .i64 2)) be 26 (.int .i64 2) := heX.set _
  have y0 := hx1.cell 0
  have n0 := hN.cell 0
  have z0 := hx1.frozen 0
  have y1 := hx1.cell 1
  have n1 := hN.cell 1
  have z1 := hx1.frozen 1
  have y2 := hx1.cell 2
  have n2 := hN.cell 2
  have z2 := hx1.frozen 2
  have y3 := hx1.cell 3
  have n3 := hN.cell 3
  have z3 := hx1.frozen 3
  have y4 := hx1.cell 4
  have n4 := hN.cell 4
  have z4 := hx1.frozen 4
  have y5 := hx1.cell 5
  have n5 := hN.cell 5
  have z5 := hx1.frozen 5
  have y6 := hx1.cell 6
  have n6 := hN.cell 6
  have z6 := hx1.frozen 6
  have y7 := hx1.cell 7
  have n7 := hN.cell 7
  have z7 := hx1.frozen 7
  have y8 := hx1.cell 8
  have n8 := hN.cell 8
  have z8 := hx1.frozen 8
  have y9 := hx1.cell 9
  have n9 := hN.cell 9
  have z9 := hx1.frozen 9
  have y10 := hx1.cell 10
  have n10 := hN.cell 10
  have z10 := hx1.frozen 10
  have y11 := hx1.cell 11
  have n11 := hN.cell 11
  have z11 := hx1.frozen 11
  have y12 := hx1.cell 12
  have n12 := hN.cell 12
  have z12 := hx1.frozen 12
  have y13 := hx1.cell 13
  have n13 := hN.cell 13
  have z13 := hx1.frozen 13
  have y14 := hx1.cell 14
  have n14 := hN.cell 14
  have z14 := hx1.frozen 14
  simp only [List.getElem?_cons_zero, List.getElem?_cons_succ] at y0 n0 y1 n1 y2 n2 y3 n3 y4 n4 y5 n5 y6 n6 y7 n7 y8 n8 y9 n9 y10 n10 y11 n11 y12 n12 y13 n13 y14 n14
  have hX' : ((((((((((((((W.setCell ⟨bx, 0, none⟩ (.int .i64 0)).setCell ⟨bx, 1, none⟩ (.int .i64 0)).setCell ⟨bx, 2, none⟩ (.int .i64 0)).setCell ⟨bx, 3, none⟩ (.int .i64 0)).setCell ⟨bx, 4, none⟩ (.int .i64 0)).setCell ⟨bx, 5, none⟩ (.int .i64 0)).setCell ⟨bx, 6, none⟩ (.int .i64 0)).setCell ⟨bx, 7, none⟩ (.int .i64 0)).setCell ⟨bx, 8, none⟩ (.int .i64 0)).setCell ⟨bx, 9, none⟩ (.string ⟨#[]⟩)).setCell ⟨bx, 10, none⟩ (.slice none 0 0)).setCell ⟨bx, 11, none⟩ (.slice none 0 0)).setCell ⟨bx, 12, none⟩ (.slice none 0 0)).setCell ⟨bx, 13, none⟩ (.slice none 0 0)).setCell ⟨bx, 14, none⟩ (.slice none 0 0) = X := hX
  have HB := Lib.hid (And.intro hB (And.intro h5 h6))
  have hta := run_typeAssert_same
  clear hB h5 h6 hx he hN hx1 he1 hX hxX hgX heX hBW hBX
  refine callsD_of_wpS Tryz.func93 rfl fun c₀ cs hu => ?_
  apply wpS_seq
  apply wpS_region
  simp [wpOpsS, go_sem, recoverD, hu, Tryz.ntmps93, Exit.thenS, spoiltV]
  refine wpS_of_wp ?_
  rw [show (#[Value.pointer (some { block := bx, off := 0 }), Value.pointer (some { block := be, off := 0 })] ++ (Array.replicate 11 undef).setIfInBounds 4 (Value.iface 114 (Value.agg #[]))) = #[Value.pointer (some { block := bx, off := 0 }), Value.pointer (some { block := be, off := 0 }), undef, undef, undef, undef, Value.iface 114 (Value.agg #[]), undef, undef, undef, undef, undef, undef] from rfl]
  go_wp2
  exact ⟨rfl, _, rfl, _, results_none rfl _ _ _, rfl, rfl, HB.out.1, HB.out.2.1, HB.out.2.2⟩

theorem idle_msg (p q : Addr) (w : World) :
    CallsD Tryz.prog 93 #[.pointer (some p), .pointer (some q)] .returning w fun e u' w' => e = .returned (.tuple #[]) ∧ u' = .returning ∧ w' = w := by
  refine callsD_of_wpS Tryz.func93 rfl fun c₀ cs hu => ?_
  apply wpS_seq
  apply wpS_region
  simp [wpOpsS, go_sem, recoverD, hu, Tryz.ntmps93, Exit.thenS]
  refine wpS_of_wp ?_
  rw [show (#[Value.pointer (some p), Value.pointer (some q)] ++ (Array.replicate 11 undef).setIfInBounds 4 Value.nilIface) = #[Value.pointer (some p), Value.pointer (some q), undef, undef, undef, undef, Value.nilIface, undef, undef, undef, undef, undef, undef] from rfl]
  go_wp2
  exact ⟨rfl, _, rfl, _, results_none rfl _ _ _, rfl, hu, rfl⟩

/-- A message and an error, the message in memory of the call's own. -/
def GotMsg (B : Nat) (r : Ms × Int) (w : World) (e : Ending) (w' : World) : Prop :=
  ∃ a, e = .returned (.tuple #[.agg (mcc r.1 a).toArray, .int .i64 r.2]) ∧ MsgO B w' r.1 a ∧ Below B w w'
end Code
end Go.Proofs.YtegiigeelcnemaaGreat
