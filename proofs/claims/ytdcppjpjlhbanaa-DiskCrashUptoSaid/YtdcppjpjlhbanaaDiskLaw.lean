/-
  What a disk's law asks of both sides, and of a script's entry (layer 7).
-/
import Derived.Test.YtdcppjpjlhbanaaDiskArgs
import Derived.Test.YtdcppjpjlhbanaaDiskAwake
import Derived.Deep.RegionLaw
namespace Go.Proofs.Ytdcppjpjlhbanaa
namespace Disk
open Go.RowKit Blk
section
variable {X : Nat → Prop} {w V V' : World} {db mb N M : Nat} {P Q : Pd}
theorem Bo.loose (h : Bo X w V db mb N M P Q) (n : Nat) (hn : P.q.length = n) : Calls Try.prog 13 #[hd db] V (fun e w' => e = .returned (.int .i64 n) ∧ w' = V) := by
  obtain ⟨F, G, h1, _⟩ := h
  exact pd_loose h1 n hn
theorem Bo.used (h : Bo X w V db mb N M P Q) (u : Nat) (hu : Disk.used P.files = u) : Calls Try.prog 14 #[hd db] V (fun e w' => e = .returned (.int .i64 u) ∧ w' = V) := by
  obtain ⟨F, G, h1, _⟩ := h
  rw [← hu]
  exact pd_used h1
theorem Bo.files (h : Bo X w V db mb N M P Q) (hN : N ≤ 3000000000000) :
    Calls Try.prog 17 #[hd db] V (fun e w' => ∃ A n c, e = .returned (.slice A n c) ∧ Hid (∃ l, Fr (fun j => V.heap.size ≤ j) w' A n c l ∧ fsR l = P.files ∧ Below V.heap.size V w')) := by
  obtain ⟨F, G, h1, _, h2, _⟩ := h
  exact files_any h1 h2.1 hN
theorem Bo.rused (h : Bo X w V db mb N M P Q) (hM : M ≤ 1900000000000) (u : Nat) (hu : Disk.used Q.files = u) : Calls Try.prog 15 #[.pointer (some ⟨mb, 0, none⟩)] V (fun e w' => e = .returned (.int .i64 u) ∧ Below V.heap.size V w') := by
  obtain ⟨F, G, _, h1, h2, _⟩ := h
  rw [← hu]
  exact doc_used h1 h2.2 hM
theorem Bo.rfiles (h : Bo X w V db mb N M P Q) (hM : M ≤ 1900000000000) :
    Calls Try.prog 18 #[.pointer (some ⟨mb, 0, none⟩)] V (fun e w' => ∃ A n c, e = .returned (.slice A n c) ∧ Hid (∃ G l, Fr G w' A n c l ∧ fsR l = Q.files ∧ Below V.heap.size V w')) := by
  obtain ⟨F, G, _, h1, h2, _⟩ := h
  refine (doc_files h1 h2.2 hM).mono ?_
  rintro e w' ⟨A, n, c, rfl, hx⟩
  exact ⟨A, n, c, rfl, Lib.hid ⟨_, hx.out⟩⟩
theorem Bo.todo (h : Bo X w V db mb N M P Q) (n : Nat) (hn : Q.q.length = n) : ∃ A c, V.cell? ⟨mb, 2, none⟩ = some (.slice A n c) ∧ mb < V.heap.size := by
  obtain ⟨F, G, _, ⟨As, ns, cs, ls, At, nt, ct, ts, h1, h2, h3, h4, h5⟩, _⟩ := h
  have e : nt = n := by
    have := congrArg List.length h3.2
    rw [List.length_map, List.length_reverse, h3.1.1] at this
    omega
  subst e
  exact ⟨At, ct, (h1.cell 2).trans rfl, h1.lt⟩
theorem Bo.read (h : Bo X w V db mb N M P Q) (s : Nm) (hs : okN s) (k : Nat) (hk : (dat P.files s).length = k) :
    Calls Try.prog 19 #[hd db, .string s] V (fun e w' => ∃ A1 c1, e = .returned (.tuple #[.slice A1 k c1, .bool (find P.files s).isSome]) ∧ Hid (w'.ownsRow V.heap.size 5 1 (.slice A1 k c1) k (nums .u8 (dat P.files s)) ∧ Below V.heap.size V w')) := by
  obtain ⟨F, G, h1, _⟩ := h
  exact pd_read h1 s hs k hk
theorem Bo.sync (h : Bo X w V db mb N M P Q) : Calls Try.prog 20 #[hd db] V (fun e w' => e = .returned (.tuple #[]) ∧ Hid (Bo X w w' db mb N M P.sync Q ∧ Kept X V w')) := h.prog (fun q => q.sync) fun _ hp _ => pd_sync hp
theorem Bo.crash (h : Bo X w V db mb N M P Q) (keep torn : Int) : Calls Try.prog 22 #[hd db, .int .i64 keep, .int .i64 torn] V (fun e w' => e = .returned (.tuple #[]) ∧ Hid (Bo X w w' db mb N M (P.crash keep torn) Q ∧ Kept X V w')) := h.prog (fun q => q.crash _ _) fun _ hp _ => pd_crash hp keep torn
/-- Both as they begin. -/
theorem bo_start {V1 : World} {F G : Nat → Prop} (h1 : PD F V db N P) (hp : P.ok N) (hb : Below w.heap.size w V) (hF : ∀ j, F j → w.heap.size ≤ j) (h2 : RD G V1 mb Q) (hq : Q.ok M) (hb1 : Below V.heap.size V V1) (hG : ∀ j, G j → V.heap.size ≤ j) : Bo (fun _ => False) w V1 db mb N M P Q :=
  ⟨F, G, h1.below hb1, h2, ⟨hp, hq⟩, hb.trans (hb1.mono hb.size), hF, fun j hj => Nat.le_trans hb.size (hG j hj), fun j hj hg => by have := h1.lt j hj; have := hG j hg; omega, fun j hj => hj.elim⟩
end
theorem new_ok (N : Nat) {r : Int} (h : 0 ≤ r ∧ r ≤ 1073741824) : Pd.ok N ⟨r, [], []⟩ := ⟨h.1, h.2, Nat.zero_le _, okF_nil N h.1⟩
theorem room_ok (z : Int) : 0 ≤ roomOf z ∧ roomOf z ≤ 1073741824 := by unfold roomOf; omega
theorem ans_same (P : Pd) (o : Oq) : ansB P P o = true := by
  unfold ansB
  split
  · simp
  · rfl
section
variable {P : Program} {w : World}
/-- A call as one step of a region that draws, if it is wanted. -/
theorem step_call_w {ops : Array Oper} {o : Oper} {a : Act} {K : Act → World → Prop} {Q : Exit → Act → World → Prop} {E : Prop} (hw : Region.wanted o (yielded ops a.tmps) = true) (f : FuncId) (args : Array Operand) (ats : Array TypeId)
    (ho : o.op = .call { callee := .value (.func f), args := args, argTypes := ats }) (hcf : (callFunc f (args.map a.eval)).run P w = .ok (.enter f (args.map a.eval)) w) (vals : Array Value) (hv : args.map a.eval = vals) {R : Ending → World → Prop} (hc : Calls P f vals w R)
    (hR : ∀ e w', R e w' → ∃ v, e = .returned v) (hK : ∀ v w', R (.returned v) w' → K (a.put o.dst v) w') :
    if Region.wanted o (yielded ops a.tmps) = true then Oper.wp P o a w K Q else E := by
  rw [if_pos hw]
  have hrun : (execOp a.eval o).run P w = .ok (.enter f vals) w := by
    subst hv
    unfold execOp
    simp [ho, go_sem, hcf]
  unfold Oper.wp
  rw [hrun, Oper.upon_enter]
  refine hc.mono fun e w' h => ?_
  obtain ⟨v, rfl⟩ := hR e w' h
  exact hK v w' h
end
/-- A script's entry. -/
theorem op_cells {w : World} {A : Option Addr} {l : List Oe} (hp : Ops w w.heap.size A l) {k : Nat} (hk : k < l.length) {o : Oq} {Ad : Option Addr} {cd : Nat} (hx : l.getD k o0 = (o, Ad, cd)) :
    ∃ b off, A = some ⟨b, off, none⟩ ∧ b < w.heap.size ∧ ∀ V, Below w.heap.size w V → V.cell? ⟨b, off + k * 6, none⟩ = some (.int .i64 o.kd) ∧ V.cell? ⟨b, off + k * 6 + 1, none⟩ = some (.string o.s) ∧ V.cell? ⟨b, off + k * 6 + 2, none⟩ = some (.string o.t) ∧ V.cell? ⟨b, off + k * 6 + 3, none⟩ = some (.slice Ad o.d.length cd) ∧ V.cell? ⟨b, off + k * 6 + 4, none⟩ = some (.int .i64 o.n) ∧ V.cell? ⟨b, off + k * 6 + 5, none⟩ = some (.int .i64 o.torn) := by
  obtain ⟨b, off, e, hb, hat⟩ := hp.2 (by omega)
  have hat := hat k hk
  rw [hx] at hat
  have hc : ∀ V, Below w.heap.size w V → ∀ r u, (oc (o, Ad, cd))[r]? = some u → V.cell? ⟨b, off + k * 6 + r, none⟩ = some u := fun V hV r u hu => (hV.cell (p := ⟨b, off + k * 6 + r, none⟩) hb).trans (hat r u hu)
  exact ⟨b, off, e, hb, fun V hV => ⟨hc V hV 0 _ rfl, hc V hV 1 _ rfl, hc V hV 2 _ rfl, hc V hV 3 _ rfl, hc V hV 4 _ rfl, hc V hV 5 _ rfl⟩⟩
theorem op_mem {l : List Oe} {k : Nat} (hk : k < l.length) {x : Oe} (hx : l.getD k o0 = x) : x ∈ l := by
  rw [← hx, List.getD_eq_getElem?_getD, List.getElem?_eq_getElem hk]
  exact List.getElem_mem hk
end Disk
end Go.Proofs.Ytdcppjpjlhbanaa
