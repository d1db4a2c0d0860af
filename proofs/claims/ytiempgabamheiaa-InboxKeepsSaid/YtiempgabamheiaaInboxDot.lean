/-
  The dot of a far write, the program's and the document's.
-/
import Derived.Test.YtiempgabamheiaaInboxOwn
import Derived.Laws.ResultCell
namespace Go.Proofs.Ytiempgabamheiaa
namespace Inbox
open Go.RowKit Vers Span Blk
attribute [local go_sem ↓] Go.wp_at_zero Go.wp_at_succ

set_option maxRecDepth 100000 in
theorem dot_any (fr sq : Int) (key : ByteArray) (Av : Option Addr) (cv m : Nat) (l : List Vr) (hm : l.length = m) (h1 : 1 ≤ m) (Ar : Option Addr) (kr cr : Nat) (w : World) (hv : Vs w 0 w.heap.size Av l) :
    Calls Try.prog 33 #[.agg #[.int .i64 fr, .int .i64 sq, .string key, .slice Av m cv, .slice Ar kr cr]] w (fun e w' => e = .returned (.agg #[.int .i64 (l.getD 0 v0).s, .int .i64 (l.getD 0 v0).n]) ∧ Below w.heap.size w w') := by
  obtain ⟨U, hU⟩ : ∃ U, w.alloc (.cells #[.int .i64 fr, .int .i64 sq, .string key, .slice Av m cv, .slice Ar kr cr] 35) = U := ⟨_, rfl⟩
  have bU : Below w.heap.size w U := by rw [← hU]; exact (Below.refl _ w).alloc (Nat.le_refl _) _
  have sU : U.heap.size = w.heap.size + 1 := by rw [← hU]; simp
  have BU : Bn w.heap.size 35 [.int .i64 fr, .int .i64 sq, .string key, .slice Av m cv, .slice Ar kr cr] U := by rw [← hU]; exact heap_alloc_new w _
  obtain ⟨V, hV⟩ : ∃ V, U.alloc (.cells #[.int .i64 0, .int .i64 0] 56) = V := ⟨_, rfl⟩
  have bV : Below U.heap.size U V := by rw [← hV]; exact (Below.refl _ U).alloc (Nat.le_refl _) _
  have BV : Bn U.heap.size 56 [.int .i64 0, .int .i64 0] V := by rw [← hV]; exact heap_alloc_new U _
  have bB : Below w.heap.size w V := bU.trans (bV.mono bU.size)
  obtain ⟨b, off, A', c', rfl, _, hbB, d0, d1, _⟩ := hv.at hm bB h1 rfl
  obtain ⟨s, hs⟩ : ∃ s, (l.getD 0 v0).s = s := ⟨_, rfl⟩
  obtain ⟨n, hn⟩ : ∃ n, (l.getD 0 v0).n = n := ⟨_, rfl⟩
  rw [hs] at d0 ⊢
  rw [hn] at d1 ⊢
  rw [Nat.zero_mul, Nat.add_zero] at d0 d1
  have BV' := BU.same (bV.block _ BU.lt)
  have x3 := BV'.cell 3
  simp only [List.getElem?_cons_zero, List.getElem?_cons_succ] at x3
  rw [sU] at BV
  have z0 := BV.cell 0
  have z1 := BV.cell 1
  simp only [List.getElem?_cons_zero, List.getElem?_cons_succ] at z0 z1
  have f0' := BV.frozen 0
  have f1' := BV.frozen 1
  have h10 : (0 : Int) < (m : Int) := by omega
  have BW := (BV.set 0 (.int .i64 s)).set 1 (.int .i64 n)
  have gW := (below_set V (w.heap.size + 1) 0 (.int .i64 s)).trans (below_set _ (w.heap.size + 1) 1 (.int .i64 n))
  obtain ⟨W, hW⟩ : ∃ W, (V.setCell ⟨w.heap.size + 1, 0, none⟩ (.int .i64 s)).setCell ⟨w.heap.size + 1, 1, none⟩ (.int .i64 n) = W := ⟨_, rfl⟩
  rw [hW] at BW gW
  have y0 := BW.cell 0
  have y1 := BW.cell 1
  simp [List.set] at y0 y1
  have HB := Lib.hid (bB.trans (gW.mono (by omega)))
  clear BW gW BV BV' BU bB bV bU hs hn hv hm
  go_enter Try.func33, Try.ntmps33
  go_wp2_with fail
  refine bodyPost_ret (v := .agg #[.int .i64 s, .int .i64 n]) ?_ rfl ⟨rfl, HB.out⟩
  rw [Blk.results_cell1 rfl]
  go_simp
set_option maxRecDepth 100000 in
theorem rdot_any (fr sq : Int) (key : ByteArray) (Av : Option Addr) (cv m : Nat) (l : List Vr) (hm : l.length = m) (h1 : 1 ≤ m) (Ar : Option Addr) (kr cr : Nat) (w : World) (hv : Vs w 0 w.heap.size Av l) :
    Calls Try.prog 37 #[.agg #[.int .i64 fr, .int .i64 sq, .string key, .slice Av m cv, .slice Ar kr cr]] w (fun e w' => e = .returned (.agg #[.int .i64 (l.getD 0 v0).s, .int .i64 (l.getD 0 v0).n]) ∧ Below w.heap.size w w') := by
  obtain ⟨U, hU⟩ : ∃ U, w.alloc (.cells #[.int .i64 fr, .int .i64 sq, .string key, .slice Av m cv, .slice Ar kr cr] 41) = U := ⟨_, rfl⟩
  have bU : Below w.heap.size w U := by rw [← hU]; exact (Below.refl _ w).alloc (Nat.le_refl _) _
  have sU : U.heap.size = w.heap.size + 1 := by rw [← hU]; simp
  have BU : Bn w.heap.size 41 [.int .i64 fr, .int .i64 sq, .string key, .slice Av m cv, .slice Ar kr cr] U := by rw [← hU]; exact heap_alloc_new w _
  obtain ⟨V, hV⟩ : ∃ V, U.alloc (.cells #[.int .i64 0, .int .i64 0] 56) = V := ⟨_, rfl⟩
  have bV : Below U.heap.size U V := by rw [← hV]; exact (Below.refl _ U).alloc (Nat.le_refl _) _
  have BV : Bn U.heap.size 56 [.int .i64 0, .int .i64 0] V := by rw [← hV]; exact heap_alloc_new U _
  have bB : Below w.heap.size w V := bU.trans (bV.mono bU.size)
  obtain ⟨b, off, A', c', rfl, _, hbB, d0, d1, _⟩ := hv.at hm bB h1 rfl
  obtain ⟨s, hs⟩ : ∃ s, (l.getD 0 v0).s = s := ⟨_, rfl⟩
  obtain ⟨n, hn⟩ : ∃ n, (l.getD 0 v0).n = n := ⟨_, rfl⟩
  rw [hs] at d0 ⊢
  rw [hn] at d1 ⊢
  rw [Nat.zero_mul, Nat.add_zero] at d0 d1
  have BV' := BU.same (bV.block _ BU.lt)
  have x3 := BV'.cell 3
  simp only [List.getElem?_cons_zero, List.getElem?_cons_succ] at x3
  rw [sU] at BV
  have z0 := BV.cell 0
  have z1 := BV.cell 1
  simp only [List.getElem?_cons_zero, List.getElem?_cons_succ] at z0 z1
  have f0' := BV.frozen 0
  have f1' := BV.frozen 1
  have h10 : (0 : Int) < (m : Int) := by omega
  have BW := (BV.set 0 (.int .i64 s)).set 1 (.int .i64 n)
  have gW := (below_set V (w.heap.size + 1) 0 (.int .i64 s)).trans (below_set _ (w.heap.size + 1) 1 (.int .i64 n))
  obtain ⟨W, hW⟩ : ∃ W, (V.setCell ⟨w.heap.size + 1, 0, none⟩ (.int .i64 s)).setCell ⟨w.heap.size + 1, 1, none⟩ (.int .i64 n) = W := ⟨_, rfl⟩
  rw [hW] at BW gW
  have y0 := BW.cell 0
  have y1 := BW.cell 1
  simp [List.set] at y0 y1
  have HB := Lib.hid (bB.trans (gW.mono (by omega)))
  clear BW gW BV BV' BU bB bV bU hs hn hv hm
  go_enter Try.func37, Try.ntmps37
  go_wp2_with fail
  refine bodyPost_ret (v := .agg #[.int .i64 s, .int .i64 n]) ?_ rfl ⟨rfl, HB.out⟩
  rw [Blk.results_cell1 rfl]
  go_simp
end Inbox
end Go.Proofs.Ytiempgabamheiaa
