/-
  firthref08.own: a packet in memory of its own (layer 8).
-/
import Derived.Test.YtinbaiblbbfnnaaNetDocOwn
import Derived.Deep.RegionHeld3
import Derived.Deep.DrawnRows
namespace Go.Proofs.Ytinbaiblbbfnnaa
namespace Net
open Go.RowKit Blk
attribute [local go_sem ↓] Go.wp_at_zero Go.wp_at_succ
set_option maxRecDepth 100000 in
set_option maxHeartbeats 1000000 in
theorem doc_own (w : World) (a1 a2 b1 b2 : Int) (zs : List Int) (k : Nat) (hk : zs.length = k) (A : Option Addr) (c : Nat) (hr : Ns .u8 w w.heap.size A zs) (hbig : k ≤ 140737488351232) :
    Calls Try.prog 37 #[.agg #[.int .i64 a1, .int .i64 a2, .int .i64 b1, .int .i64 b2, .slice A k c]] w (fun e w' => ∃ A' c', e = .returned (.agg #[.int .i64 a1, .int .i64 a2, .int .i64 b1, .int .i64 b2, .slice A' k c']) ∧ Hid (w'.ownsRow w.heap.size 5 1 (.slice A' k c') k (nums .u8 zs)) ∧ Below w.heap.size w w') := by
  obtain ⟨i0, hi0, hz0, hz1, hz2⟩ := info_parts Facts.info5
  obtain ⟨pb, hpb⟩ : ∃ b, w.heap.size = b := ⟨_, rfl⟩
  obtain ⟨U1, hU1⟩ : ∃ V, w.alloc (.cells #[.int .i64 a1, .int .i64 a2, .int .i64 b1, .int .i64 b2, .slice A k c] 36) = V := ⟨_, rfl⟩
  have b1' : Below w.heap.size w U1 := by rw [← hU1]; exact (Below.refl _ w).alloc (Nat.le_refl _) _
  have P1 : Bn pb 36 [.int .i64 a1, .int .i64 a2, .int .i64 b1, .int .i64 b2, .slice A k c] U1 := by rw [← hU1, ← hpb]; exact heap_alloc_new w _
  obtain ⟨rb, hrb⟩ : ∃ b, U1.heap.size = b := ⟨_, rfl⟩
  obtain ⟨U2, hU2⟩ : ∃ V, U1.alloc (.cells #[.int .i64 0, .int .i64 0, .int .i64 0, .int .i64 0, .slice none 0 0] 36) = V := ⟨_, rfl⟩
  have b2' : Below U1.heap.size U1 U2 := by rw [← hU2]; exact (Below.refl _ U1).alloc (Nat.le_refl _) _
  have R2 : Bn rb 36 [.int .i64 0, .int .i64 0, .int .i64 0, .int .i64 0, .slice none 0 0] U2 := by rw [← hU2, ← hrb]; exact heap_alloc_new U1 _
  have P2 := P1.same (b2'.block pb P1.lt)
  have hw2 : Below w.heap.size w U2 := b1'.trans (b2'.mono b1'.size)
  have hr2 := (hr.below hw2).more hw2.size
  have hne : pb < rb := by rw [← hrb]; exact P1.lt
  have x4 := (P2.cell 4).trans rfl
  have HZ := Lib.hid (And.intro hr2 (And.intro hk (And.intro hw2 (And.intro P2 R2))))
  have hwp : w.heap.size = pb := hpb
  clear hr2 hk hw2 P2 R2 b1' b2' P1 hr
  go_enter Try.func37, Try.ntmps37
  go_wp2_with (at_builtin; refine wpList_append_ns _ rfl (.tmp 4) (.tmp 6) 34 rfl U2.heap.size 5 i0 (.int .u8 0) 1 Try.underlying34 hi0 hz0 hz1 hz2 rfl _ 0 [] rfl (World.ownsRow_nil _ _ _ _) .u8 U2.heap.size A k c zs HZ.out.2.1 rfl HZ.out.1 (by omega) (by omega) (Nat.le_refl _) ?_; intro v3 w3 o3 g3 at3; rw [Nat.zero_add, List.nil_append] at o3; obtain ⟨A3, c3, rfl⟩ := own_form o3; have b3 : Below U2.heap.size U2 w3 := (Below.refl _ U2).grown g3 (Nat.le_refl _) (fun j hj => by cases hj); have P3 := HZ.out.2.2.2.1.same (b3.block pb HZ.out.2.2.2.1.lt); have R3 := HZ.out.2.2.2.2.same (b3.block rb HZ.out.2.2.2.2.lt); have gX := gset w3 pb 4 (.slice A3 k c3); have PX := P3.set 4 (.slice A3 k c3); have RX := R3.kept gX (by intro q; injection q with q; omega); have y4 := (P3.cell 4).trans rfl; have fy := P3.frozen 4; obtain ⟨X, hX⟩ : ∃ V, w3.setCell ⟨pb, 4, none⟩ (.slice A3 k c3) = V := ⟨_, rfl⟩; rw [hX] at gX PX RX; simp only [List.set_cons_zero, List.set_cons_succ] at PX; have z0 := (PX.cell 0).trans rfl; have z1 := (PX.cell 1).trans rfl; have z2 := (PX.cell 2).trans rfl; have z3 := (PX.cell 3).trans rfl; have z4 := (PX.cell 4).trans rfl; have r0 := (RX.cell 0).trans rfl; have r1 := (RX.cell 1).trans rfl; have r2 := (RX.cell 2).trans rfl; have r3 := (RX.cell 3).trans rfl; have r4 := (RX.cell 4).trans rfl; have q0 := RX.frozen 0; have q1 := RX.frozen 1; have q2 := RX.frozen 2; have q3 := RX.frozen 3; have q4 := RX.frozen 4; have BY := five_bn RX (.int .i64 a1) (.int .i64 a2) (.int .i64 b1) (.int .i64 b2) (.slice A3 k c3); have gY := five_grown X rb (.int .i64 a1) (.int .i64 a2) (.int .i64 b1) (.int .i64 b2) (.slice A3 k c3); obtain ⟨Y, hY⟩ : ∃ V, five X rb (.int .i64 a1) (.int .i64 a2) (.int .i64 b1) (.int .i64 b2) (.slice A3 k c3) = V := ⟨_, rfl⟩; rw [hY] at BY gY; unfold five at hY; have k0 := (BY.cell 0).trans rfl; have k1 := (BY.cell 1).trans rfl; have k2 := (BY.cell 2).trans rfl; have k3 := (BY.cell 3).trans rfl; have k4 := (BY.cell 4).trans rfl; have sz := HZ.out.2.2.1.size; have HF : Hid (Y.ownsRow w.heap.size 5 1 (.slice A3 k c3) k (nums .u8 zs) ∧ Below w.heap.size w Y) := Lib.hid (by
      have hlt : ∀ g, (Value.slice A3 k c3).ownBlock = some g → U2.heap.size ≤ g := fun g hg => (o3.lt g hg).1
      have hrb2 : rb < U2.heap.size := HZ.out.2.2.2.2.lt
      have bX : Below w.heap.size w X := ((HZ.out.2.2.1.trans (b3.mono sz)).grown gX (by have := b3.size; omega) fun g hg => by injection hg with hg; omega)
      refine ⟨own_base (own_keep (own_keep o3 fun g hg => gX.block g (o3.lt g hg).2 fun e => by injection e with e; have := hlt g hg; omega) fun g hg => gY.block g (Nat.lt_of_lt_of_le (o3.lt g hg).2 gX.size) fun e => by injection e with e; have := hlt g hg; omega) sz, bX.grown gY bX.size fun g hg => by injection hg with hg; omega⟩); clear b3 P3 R3 gX PX RX BY gY o3 g3 at3 x4)
  refine bodyPost_ret (v := .agg #[.int .i64 a1, .int .i64 a2, .int .i64 b1, .int .i64 b2, .slice A3 k c3]) ?_ rfl ⟨A3, c3, rfl, Lib.hid HF.out.1, HF.out.2⟩
  rw [Blk.results_cell1 rfl]
  go_simp
end Net
end Go.Proofs.Ytinbaiblbbfnnaa
