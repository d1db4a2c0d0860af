/-
  Records and messages among a law's arguments.
-/
import Derived.Test.YtegiigeelcnemaaGreatSliceAt
import Derived.Test.YtegiigeelcnemaaGreatCodeRecs
import Derived.Test.YtegiigeelcnemaaGreatGNumA
namespace Go.Proofs.YtegiigeelcnemaaGreat
namespace Code
open Go.ChangeShapes Go.WideShapes Go.ChangeAt Go.RowKit Go.Joins Go.Deep Span Vers Num

theorem cells_rec : Tryz.prog.cellsOf 24 = 2 := by kernel_rfl
theorem bytes_rec : Tryz.prog.bytesOf 24 = 40 := by kernel_rfl
theorem cells_vers : Tryz.prog.cellsOf 22 = 1 := by kernel_rfl
theorem cells_recs : Tryz.prog.cellsOf 37 = 1 := by kernel_rfl
theorem cells_msg : Tryz.prog.cellsOf 45 = 15 := by kernel_rfl
theorem cells_addr : Tryz.prog.cellsOf 40 = 2 := by kernel_rfl
theorem cells_errno : Tryz.prog.cellsOf 26 = 1 := by kernel_rfl
theorem cells_i64s : Tryz.prog.cellsOf 41 = 1 := by kernel_rfl
theorem cells_ints : Tryz.prog.cellsOf 42 = 1 := by kernel_rfl
theorem cells_u64s : Tryz.prog.cellsOf 43 = 1 := by kernel_rfl
theorem cells_u64 : Tryz.prog.cellsOf 95 = 1 := by kernel_rfl
theorem bytes_u64 : Tryz.prog.bytesOf 95 = 8 := by kernel_rfl
theorem bytes_i64 : Tryz.prog.bytesOf 2 = 8 := by kernel_rfl
theorem bytes_int : Tryz.prog.bytesOf 3 = 8 := by kernel_rfl

section
variable {H : Type} {enc : TypeId × Value → H} {W : World}
theorem vs_at {n : Nat} {cs : List Value} {D : DataW H} {Pl : List MemPlace} (h : DataW.trod enc Tryz.prog W 0 (fun _ => true) true n 22 cs = some (D, Pl)) (hw : Wt Tryz.prog 22 D) :
    ∃ (A : Option Addr) (c : Nat) (l : List Vr), cs = [.slice A l.length c] ∧ Vs W 0 W.heap.size A l ∧ l.length ≤ c ∧ l.length ≤ 140737488355328 := by
  obtain ⟨A, c, ps, rfl, hc, hb, hq, hp⟩ := slice_at Tryz.underlying22 h hw cells_ver bytes_ver (by omega) vcc (fun p => Pa W 0 W.heap.size p.2.1 p.2.2 p.1) z0 (fun _ => rfl) (fun n cs D Pl h hw => by
    obtain ⟨v, A, c, rfl, hpa, _⟩ := ver_at h hw
    exact ⟨(v, A, c), rfl, hpa⟩)
  refine ⟨A, c, ps.map Prod.fst, by rw [List.length_map], fun h0 => ?_, by rw [List.length_map]; exact hc, by rw [List.length_map]; omega⟩
  rw [List.length_map] at h0
  obtain ⟨b, off, e, hbl, hat⟩ := hp h0
  refine ⟨b, off, e, Nat.zero_le _, hbl, fun j hj => ?_⟩
  rw [List.length_map] at hj
  have e2 : (ps.map Prod.fst).getD j v0 = (ps.getD j z0).1 := by simp [List.getD_eq_getElem?_getD, hj]
  have hm : ps.getD j z0 ∈ ps := by
    rw [List.getD_eq_getElem?_getD, List.getElem?_eq_getElem hj]
    exact List.getElem_mem _
  rw [e2]
  exact ⟨_, _, hat j hj 0 _ (by simp [vcc]), hat j hj 1 _ (by simp [vcc]), hat j hj 2 _ (by simp [vcc]), hat j hj 3 _ (by simp [vcc]), hat j hj 4 _ (by simp [vcc]), hq _ hm⟩
set_option maxRecDepth 100000 in
theorem rec_at {n : Nat} {cs : List Value} {D : DataW H} {Pl : List MemPlace} (h : DataW.trod enc Tryz.prog W 0 (fun _ => true) true n 24 cs = some (D, Pl)) (hw : Wt Tryz.prog 24 D) :
    ∃ p : Pr, cs = rcc p ∧ (Vs W 0 W.heap.size p.2.1 p.1.2 ∧ (p.1.2.length ≤ p.2.2 ∧ p.1.2.length ≤ 140737488355328 ∧ p.1.1.size ≤ 140737488355328)) := by
  obtain ⟨y0, y1, m, hx, hl, h0, h1⟩ := trod_struct2 Tryz.underlying24 h
  rw [cells_rec] at hl
  match cs, hl with
  | [q0, q1], _ =>
    simp only [cells_vers, cells_string, List.drop_zero, List.take_succ_cons, List.take_zero, List.drop_succ_cons] at h0 h1
    obtain ⟨x, e0, x0, hxl⟩ := DataW.trod_string Tryz.underlying9 h0
    simp only [Prod.mk.injEq] at hx
    have hww := wt_struct Tryz.underlying24 (hx.1 ▸ hw)
    obtain ⟨A, c, l, e1, hs, hlc, hlw⟩ := vs_at (D := y1.1) (Pl := y1.2) h1 (hww 1 22 y1.1 rfl rfl)
    have hv := hww 0 9 y0.1 rfl rfl
    rw [show y0 = (.lit (.string x.data.toList), []) from x0] at hv
    have hvl := wt_string hv
    have hsz : x.data.toList.length = x.size := by rw [Array.length_toList]; rfl
    rw [hsz] at hvl
    simp only [List.cons.injEq, and_true] at e0 e1
    subst e0 e1
    exact ⟨((x, l), A, c), rfl, hs, hlc, hlw, by simp only; omega⟩
theorem rs_at {n : Nat} {cs : List Value} {D : DataW H} {Pl : List MemPlace} (h : DataW.trod enc Tryz.prog W 0 (fun _ => true) true n 37 cs = some (D, Pl)) (hw : Wt Tryz.prog 37 D) :
    ∃ (A : Option Addr) (c : Nat) (l : List Rc), cs = [.slice A l.length c] ∧ Rs W 0 W.heap.size A l ∧ l.length ≤ c ∧ l.length ≤ 140737488355328 := by
  obtain ⟨A, c, ps, rfl, hc, hb, hq, hp⟩ := slice_at Tryz.underlying37 h hw cells_rec bytes_rec (by omega) rcc (fun p => Vs W 0 W.heap.size p.2.1 p.1.2 ∧ (p.1.2.length ≤ p.2.2 ∧ p.1.2.length ≤ 140737488355328 ∧ p.1.1.size ≤ 140737488355328)) (r0, none, 0) (fun _ => rfl) (fun n cs D Pl h hw => rec_at h hw)
  refine ⟨A, c, ps.map Prod.fst, by rw [List.length_map], fun h0 => ?_, by rw [List.length_map]; exact hc, by rw [List.length_map]; omega⟩
  rw [List.length_map] at h0
  obtain ⟨b, off, e, hbl, hat⟩ := hp h0
  refine ⟨b, off, e, Nat.zero_le _, hbl, fun j hj => ?_⟩
  rw [List.length_map] at hj
  have e2 : (ps.map Prod.fst).getD j r0 = (ps.getD j (r0, none, 0)).1 := by simp [List.getD_eq_getElem?_getD, hj]
  have hm : ps.getD j (r0, none, 0) ∈ ps := by
    rw [List.getD_eq_getElem?_getD, List.getElem?_eq_getElem hj]
    exact List.getElem_mem _
  rw [e2]
  exact ⟨_, _, hat j hj 0 _ (by simp [rcc]), hat j hj 1 _ (by simp [rcc]), (hq _ hm).1, (hq _ hm).2⟩
theorem ns_at {t e : TypeId} {k : IntKind} (ht : Tryz.prog.underlying t = some (.slice e)) (he : Tryz.prog.cellsOf e = 1) (hb8 : Tryz.prog.bytesOf e = 8) (hu : Tryz.prog.underlying e = some (.int k))
    {n : Nat} {cs : List Value} {D : DataW H} {Pl : List MemPlace} (h : DataW.trod enc Tryz.prog W 0 (fun _ => true) true n t cs = some (D, Pl)) (hw : Wt Tryz.prog t D) :
    ∃ (A : Option Addr) (c : Nat) (l : List Int), cs = [.slice A l.length c] ∧ Ns k W W.heap.size A l ∧ l.length ≤ c ∧ l.length ≤ 140737488355328 ∧ ∀ x ∈ l, (Lit.int k x).wf = true := by
  obtain ⟨A, c, l, rfl, hc, hb, hq, hp⟩ := slice_at ht h hw he hb8 (by omega) (fun x => [.int k x]) (fun x => (Lit.int k x).wf = true) 0 (fun _ => rfl) (fun n cs D Pl h hw => by
    obtain ⟨s, e0, _, w0⟩ := DataW.trod_int hu h
    exact ⟨s, e0, w0⟩)
  refine ⟨A, c, l, rfl, fun h0 => ?_, hc, by omega, hq⟩
  obtain ⟨b, off, e, hbl, hat⟩ := hp h0
  exact ⟨b, off, e, hbl, fun j hj => by have := hat j hj 0 _ rfl; simpa using this⟩
/-! ### Bulks -/
theorem bulk_pos (d : DataW H) : 1 ≤ Rows.uptoBulk d := by
  cases d with
  | lit x => cases x <;> simp [Rows.uptoBulk]
  | _ => simp [Rows.uptoBulk]
theorem bulk_len : ∀ (l : List (DataW H)), l.length ≤ Rows.uptoBulkAll l
  | [] => by simp
  | d :: l => by
    have h1 := bulk_pos d
    have h2 := bulk_len l
    simp only [Rows.uptoBulkAll, List.length_cons]
    omega
theorem bulk_mem : ∀ {l : List (DataW H)} {d : DataW H}, d ∈ l → Rows.uptoBulk d ≤ Rows.uptoBulkAll l
  | [], _, h => by cases h
  | x :: l, d, h => by
    simp only [Rows.uptoBulkAll]
    rcases List.mem_cons.1 h with rfl | h
    · omega
    · have := bulk_mem h
      omega
theorem slice_bulk {P : Program} {t e : TypeId} (ht : P.underlying t = some (.slice e)) {n : Nat} {cs : List Value} {D : DataW H} {Pl : List MemPlace} (h : DataW.trod enc P W 0 (fun _ => true) true n t cs = some (D, Pl)) {A : Option Addr} {len c : Nat} (hcs : cs = [.slice A len c]) : len ≤ Rows.uptoBulk D := by
  rcases open_slice ht h with ⟨rfl, _⟩ | ⟨a, len', cap, m, n', D', Pl', rfl, _, hl, hm, hmm, hx, hi⟩
  · simp only [List.cons.injEq, Value.slice.injEq, and_true] at hcs
    omega
  · simp only [List.cons.injEq, Value.slice.injEq, and_true] at hcs
    simp only [Prod.mk.injEq] at hx
    rw [hx.1]
    simp only [Rows.uptoBulk]
    have := bulk_len ((List.range len').map D')
    simp only [List.length_map, List.length_range] at this
    omega
/-! ### Messages among the arguments -/
theorem wf_u64' {n : Int} (h : (Lit.int .u64 n).wf = true) : 0 ≤ n ∧ n < 18446744073709551616 := by
  simp [Lit.wf, IntKind.min, IntKind.max, IntKind.bits, IntKind.signed] at h
  omega
theorem trod_struct13 {P : Program} {w : World} {base : Nat} {spare : Nat → Bool} {held : Bool} {t : TypeId} {f0 f1 f2 f3 f4 f5 f6 f7 f8 f9 f10 f11 f12 : Field} {fuel : Nat} {cs : List Value} {x : DataW H × List MemPlace} (ht : P.underlying t = some (.struct #[f0, f1, f2, f3, f4, f5, f6, f7, f8, f9, f10, f11, f12])) (h : DataW.trod enc P w base spare held fuel t cs = some x) :
    ∃ y0 y1 y2 y3 y4 y5 y6 y7 y8 y9 y10 y11 y12 n, x.1 = .agg [y0.1, y1.1, y2.1, y3.1, y4.1, y5.1, y6.1, y7.1, y8.1, y9.1, y10.1, y11.1, y12.1] ∧ cs.length = P.cellsOf t ∧ DataW.trod enc P w base spare held n f0.type ((cs.drop f0.offset).take (P.cellsOf f0.type)) = some y0 ∧ DataW.trod enc P w base spare held n f1.type ((cs.drop f1.offset).take (P.cellsOf f1.type)) = some y1 ∧ DataW.trod enc P w base spare held n f2.type ((cs.drop f2.offset).take (P.cellsOf f2.type)) = some y2 ∧ DataW.trod enc P w base spare held n f3.type ((cs.drop f3.offset).take (P.cellsOf f3.type)) = some y3 ∧ DataW.trod enc P w base spare held n f4.type ((cs.drop f4.offset).take (P.cellsOf f4.type)) = some y4 ∧ DataW.trod enc P w base spare held n f5.type ((cs.drop f5.offset).take (P.cellsOf f5.type)) = some y5 ∧ DataW.trod enc P w base spare held n f6.type ((cs.drop f6.offset).take (P.cellsOf f6.type)) = some y6 ∧ DataW.trod enc P w base spare held n f7.type ((cs.drop f7.offset).take (P.cellsOf f7.type)) = some y7 ∧ DataW.trod enc P w base spare held n f8.type ((cs.drop f8.offset).take (P.cellsOf f8.type)) = some y8 ∧ DataW.trod enc P w base spare held n f9.type ((cs.drop f9.offset).take (P.cellsOf f9.type)) = some y9 ∧ DataW.trod enc P w base spare held n f10.type ((cs.drop f10.offset).take (P.cellsOf f10.type)) = some y10 ∧ DataW.trod enc P w base spare held n f11.type ((cs.drop f11.offset).take (P.cellsOf f11.type)) = some y11 ∧ DataW.trod enc P w base spare held n f12.type ((cs.drop f12.offset).take (P.cellsOf f12.type)) = some y12 := by
  obtain ⟨xs, n, _, rfl, hl, hlen, hf⟩ := DataW.trod_struct ht h
  match xs, hlen with
  | [y0, y1, y2, y3, y4, y5, y6, y7, y8, y9, y10, y11, y12], _ => exact ⟨y0, y1, y2, y3, y4, y5, y6, y7, y8, y9, y10, y11, y12, n, by simp, hl, by simpa using hf 0 f0 rfl, by simpa using hf 1 f1 rfl, by simpa using hf 2 f2 rfl, by simpa using hf 3 f3 rfl, by simpa using hf 4 f4 rfl, by simpa using hf 5 f5 rfl, by simpa using hf 6 f6 rfl, by simpa using hf 7 f7 rfl, by simpa using hf 8 f8 rfl, by simpa using hf 9 f9 rfl, by simpa using hf 10 f10 rfl, by simpa using hf 11 f11 rfl, by simpa using hf 12 f12 rfl⟩

set_option maxRecDepth 100000 in
set_option maxHeartbeats 1000000 in
/-- The cells of one message, as they are read. -/
theorem msg_at {n : Nat} {cs : List Value} {D : DataW H} {Pl' : List MemPlace} (h : DataW.trod enc Tryz.prog W 0 (fun _ => true) true n 45 cs = some (D, Pl')) (hw : Wt Tryz.prog 45 D) :
    ∃ (kind f1 f2 t1 t2 id nn for_ code : Int) (key : ByteArray) (recs : List Rc) (vec path hashes route : List Int) (A8 A9 A10 A11 A12 : Option Addr) (c8 c9 c10 c11 c12 : Nat),
      cs = mcc (kind, (f1, f2), (t1, t2), id, nn, for_, code, key, recs, vec, path, hashes, route) ((A8, c8), (A9, c9), (A10, c10), (A11, c11), (A12, c12)) ∧ MsgI W 0 W.heap.size (kind, (f1, f2), (t1, t2), id, nn, for_, code, key, recs, vec, path, hashes, route) ((A8, c8), (A9, c9), (A10, c10), (A11, c11), (A12, c12)) ∧
      tyM (kind, (f1, f2), (t1, t2), id, nn, for_, code, key, recs, vec, path, hashes, route) ∧ key.size ≤ 140737488355328 ∧ (vec.length ≤ 140737488355328 ∧ path.length ≤ 140737488355328 ∧ hashes.length ≤ 140737488355328 ∧ route.length ≤ 140737488355328) ∧ recs.length ≤ Rows.uptoBulk D := by
  obtain ⟨y0, y1, y2, y3, y4, y5, y6, y7, y8, y9, y10, y11, y12, m, hx, hl, h0, h1, h2, h3, h4, h5, h6, h7, h8, h9, h10, h11, h12⟩ := trod_struct13 Tryz.underlying45 h
  rw [cells_msg] at hl
  match cs, hl with
  | [q0, q1, q2, q3, q4, q5, q6, q7, q8, q9, q10, q11, q12, q13, q14], _ =>
    simp only [cells_string, cells_addr, cells_errno, cells_recs, cells_i64s, cells_ints, cells_u64s, cells_int, cells_int64, List.drop_zero, List.take_succ_cons, List.take_zero, List.drop_succ_cons] at h0 h1 h2 h3 h4 h5 h6 h7 h8 h9 h10 h11 h12
    obtain ⟨a0, a1, m1, _, _, g0, g1⟩ := trod_struct2 Tryz.underlying40 h1
    obtain ⟨b0, b1, m2, _, _, g2, g3⟩ := trod_struct2 Tryz.underlying40 h2
    simp only [cells_int, List.drop_zero, List.take_succ_cons, List.take_zero, List.drop_succ_cons] at g0 g1 g2 g3
    obtain ⟨kind, e0, _, _⟩ := DataW.trod_int Tryz.underlying3 h0
    obtain ⟨f1, e1, _, _⟩ := DataW.trod_int Tryz.underlying3 g0
    obtain ⟨f2, e2, _, _⟩ := DataW.trod_int Tryz.underlying3 g1
    obtain ⟨t1, e3, _, _⟩ := DataW.trod_int Tryz.underlying3 g2
    obtain ⟨t2, e4, _, _⟩ := DataW.trod_int Tryz.underlying3 g3
    obtain ⟨id, e5, _, w5⟩ := DataW.trod_int Tryz.underlying2 h3
    obtain ⟨nn, e6, _, w6⟩ := DataW.trod_int Tryz.underlying2 h4
    obtain ⟨for_, e7, _, _⟩ := DataW.trod_int Tryz.underlying3 h5
    obtain ⟨code, e8, _, _⟩ := DataW.trod_int Tryz.underlying26 h6
    obtain ⟨key, e9, x9, _⟩ := DataW.trod_string Tryz.underlying9 h7
    replace hx : D = _ := hx
    have hww := wt_struct Tryz.underlying45 (hx ▸ hw)
    have hv := hww 7 9 y7.1 rfl rfl
    rw [show y7 = (.lit (.string key.data.toList), []) from x9] at hv
    have hvl := wt_string hv
    have hsz : key.data.toList.length = key.size := by rw [Array.length_toList]; rfl
    rw [hsz] at hvl
    obtain ⟨A8, c8, recs, e10, r1, r2, r3⟩ := rs_at (D := y8.1) (Pl := y8.2) h8 (hww 8 37 y8.1 rfl rfl)
    obtain ⟨A9, c9, vec, e11, v1, v2, v3, _⟩ := ns_at Tryz.underlying41 cells_int64 bytes_i64 Tryz.underlying2 (D := y9.1) (Pl := y9.2) h9 (hww 9 41 y9.1 rfl rfl)
    obtain ⟨A10, c10, path, e12, p1, p2, p3, _⟩ := ns_at Tryz.underlying42 cells_int bytes_int Tryz.underlying3 (D := y10.1) (Pl := y10.2) h10 (hww 10 42 y10.1 rfl rfl)
    obtain ⟨A11, c11, hashes, e13, s1, s2, s3, s4⟩ := ns_at Tryz.underlying43 cells_u64 bytes_u64 Tryz.underlying95 (D := y11.1) (Pl := y11.2) h11 (hww 11 43 y11.1 rfl rfl)
    obtain ⟨A12, c12, route, e14, u1, u2, u3, _⟩ := ns_at Tryz.underlying42 cells_int bytes_int Tryz.underlying3 (D := y12.1) (Pl := y12.2) h12 (hww 12 42 y12.1 rfl rfl)
    simp only [List.cons.injEq, and_true] at e0 e1 e2 e3 e4 e5 e6 e7 e8 e9 e10 e11 e12 e13 e14
    subst e0 e1 e2 e3 e4 e5 e6 e7 e8 e9 e10 e11 e12 e13 e14
    have d5 := wf_int w5
    have d6 := wf_int w6
    have hbk := slice_bulk Tryz.underlying37 (D := y8.1) (Pl := y8.2) h8 rfl
    have hbm := bulk_mem (d := y8.1) (l := [y0.1, y1.1, y2.1, y3.1, y4.1, y5.1, y6.1, y7.1, y8.1, y9.1, y10.1, y11.1, y12.1]) (by simp)
    have hbD : Rows.uptoBulk D = Rows.uptoBulkAll [y0.1, y1.1, y2.1, y3.1, y4.1, y5.1, y6.1, y7.1, y8.1, y9.1, y10.1, y11.1, y12.1] + 1 := by rw [hx]; rfl
    exact ⟨kind, f1, f2, t1, t2, id, nn, for_, code, key, recs, vec, path, hashes, route, A8, A9, A10, A11, A12, c8, c9, c10, c11, c12, rfl, ⟨r1, v1, p1, s1, u1⟩, ⟨d5.2, d6.2, r3, fun x hx => wf_u64' (s4 x hx)⟩, by omega, ⟨v3, p3, s3, u3⟩, by omega⟩
set_option maxRecDepth 100000 in
/-- A message among the arguments. -/
theorem open_msg {v : Value} {d : DataW H} {p : List MemPlace} {r : Reach} {b0 : Nat} (hv : Value.okWide Tryz.prog W r b0 45 v) (h : DataW.Trod enc Tryz.prog W 0 (fun _ => true) true 45 v d p) (hw : Wt Tryz.prog 45 d) :
    ∃ (kind f1 f2 t1 t2 id nn for_ code : Int) (key : ByteArray) (recs : List Rc) (vec path hashes route : List Int) (A8 A9 A10 A11 A12 : Option Addr) (c8 c9 c10 c11 c12 : Nat),
      v = .agg (mcc (kind, (f1, f2), (t1, t2), id, nn, for_, code, key, recs, vec, path, hashes, route) ((A8, c8), (A9, c9), (A10, c10), (A11, c11), (A12, c12))).toArray ∧ MsgI W 0 W.heap.size (kind, (f1, f2), (t1, t2), id, nn, for_, code, key, recs, vec, path, hashes, route) ((A8, c8), (A9, c9), (A10, c10), (A11, c11), (A12, c12)) ∧
      tyM (kind, (f1, f2), (t1, t2), id, nn, for_, code, key, recs, vec, path, hashes, route) ∧ key.size ≤ 140737488355328 ∧ (vec.length ≤ 140737488355328 ∧ path.length ≤ 140737488355328 ∧ hashes.length ≤ 140737488355328 ∧ route.length ≤ 140737488355328) ∧ recs.length ≤ Rows.uptoBulk d := by
  obtain ⟨cs, rfl, hsz⟩ := okWide_struct Tryz.underlying45 hv
  obtain ⟨fuel, hf⟩ := h
  obtain ⟨kind, f1, f2, t1, t2, id, nn, for_, code, key, recs, vec, path, hashes, route, A8, A9, A10, A11, A12, c8, c9, c10, c11, c12, hcs, rest⟩ := msg_at hf hw
  refine ⟨kind, f1, f2, t1, t2, id, nn, for_, code, key, recs, vec, path, hashes, route, A8, A9, A10, A11, A12, c8, c9, c10, c11, c12, ?_, rest⟩
  congr 1
  rw [← Array.toList_inj]
  simpa [Value.cells] using hcs
end
end Code
end Go.Proofs.YtegiigeelcnemaaGreat
