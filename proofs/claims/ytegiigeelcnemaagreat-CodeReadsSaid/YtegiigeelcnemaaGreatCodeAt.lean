/-
  The calls that take messages, for a message as a tuple: how long its bytes may be, code.PutMsg, firthref06.Same.
-/
import Derived.Test.YtegiigeelcnemaaGreatCodePutMsg
import Derived.Test.YtegiigeelcnemaaGreatCodeReadMsg
import Derived.Test.YtegiigeelcnemaaGreatCodeMsgSame
import Derived.Test.YtegiigeelcnemaaGreatCodeArgs
import Derived.Test.YtegiigeelcnemaaGreatStructRow
namespace Go.Proofs.YtegiigeelcnemaaGreat
namespace Code
open Go.RowKit Num Span Vers Frm

theorem verL_len {v : Vr} (h : okV v) : (verL v).length ≤ 27949 := by
  obtain ⟨_, hR, _, hv, _⟩ := h
  have h1 := putL_len v.s
  have h2 := putL_len v.n
  have h3 := setL_len hR.1
  have h4 : (tailL v).length ≤ 274 := by
    have a := putL_len 1
    have b := putL_len 0
    have c := txtL_len v.val
    unfold tailL
    split
    · omega
    · rw [List.length_append]
      omega
  unfold verL
  rw [List.length_append, List.length_append, List.length_append]
  omega
theorem recL_len {r : Rc} (h : okR r) : (recL r).length ≤ 14309938 := by
  obtain ⟨_, hk, hV⟩ := h
  have h1 := txtL_len r.1
  have h2 := putL_len (r.2.length : Int)
  have h3 := flat_le (l := r.2) (enc := verL) (m := 27949) fun x hx => verL_len (hV.2.1.1 x hx)
  have h4 := hV.1
  unfold recL
  rw [List.length_append, seqL_length]
  omega
theorem seqL_le {α : Type} {enc : α → List Int} {l : List α} {m : Nat} (h : ∀ x ∈ l, (enc x).length ≤ m) : (seqL enc l).length ≤ 9 + l.length * m := by
  have h2 := putL_len (l.length : Int)
  have h3 := flat_le h
  rw [seqL_length]
  omega
theorem addrL_len (a : Int × Int) : (addrL a).length ≤ 18 := by
  have h1 := putL_len a.1
  have h2 := putL_len a.2
  unfold addrL
  rw [List.length_append]
  omega
/-- A right message of few records is short. -/
theorem msgL_short {m : Ms} (h : okM m) (hn : m.2.2.2.2.2.2.2.2.1.length ≤ 1048576) : (msgL m).length ≤ 70368744000000 := by
  obtain ⟨kind, ⟨f1, f2⟩, ⟨t1, t2⟩, id, n, for_, code, key, recs, vec, path, hashes, route⟩ := m
  obtain ⟨x0, x1, x2, x3, x4, x5, x6, x7, x8, x9, x10, x11, x12⟩ := h
  simp only at hn
  rw [msgL_eq]
  have a0 := putL_len kind
  have a1 := addrL_len (f1, f2)
  have a2 := addrL_len (t1, t2)
  have a3 := putL_len id
  have a4 := putL_len n
  have a5 := putL_len for_
  have a6 := putL_len code
  have a7 : (strL key).length ≤ 9 + key.size := (txtL_len key).2
  have a8 := seqL_le (enc := recL) (l := recs) (m := 14309938) fun x hx => recL_len (x8 x hx)
  have a9 := seqL_le (enc := putL) (l := vec) (m := 9) fun x _ => (putL_len x).2
  have a10 := seqL_le (enc := putL) (l := path) (m := 9) fun x _ => (putL_len x).2
  have a11 := seqL_le (enc := hshL) (l := hashes) (m := 18) fun x _ => addrL_len (x / 4294967296, x % 4294967296)
  have a12 := seqL_le (enc := putL) (l := route) (m := 9) fun x _ => (putL_len x).2
  have b9 := x9.1
  have b10 := x10.1
  have b12 := x12.1
  simp only [List.length_append]
  omega

/-- A message that may be handed in: what is asked of it beside its place. -/
def Fit (m : Ms) : Prop := tyM m ∧ m.2.2.2.2.2.2.2.1.size ≤ 140737488355328 ∧ (m.2.2.2.2.2.2.2.2.2.1.length ≤ 140737488355328 ∧ m.2.2.2.2.2.2.2.2.2.2.1.length ≤ 140737488355328 ∧ m.2.2.2.2.2.2.2.2.2.2.2.1.length ≤ 140737488355328 ∧ m.2.2.2.2.2.2.2.2.2.2.2.2.length ≤ 140737488355328)
theorem fit_ok {m : Ms} (h : okM m) (ht : tyM m) : Fit m := by
  obtain ⟨kind, ⟨f1, f2⟩, ⟨t1, t2⟩, id, n, for_, code, key, recs, vec, path, hashes, route⟩ := m
  obtain ⟨x0, x1, x2, x3, x4, x5, x6, x7, x8, x9, x10, x11, x12⟩ := h
  have b9 := x9.1
  have b10 := x10.1
  have b12 := x12.1
  exact ⟨ht, by simp only; omega, by simp only; omega⟩
theorem putmsg_at (m : Ms) (a : Pl) (hf : Fit m) (hbig : okM m → (msgL m).length ≤ 70368744000000) (w : World) (hr : MsgI w 0 w.heap.size m a) :
    Calls Tryz.prog 14 #[.agg (mcc m a).toArray] w (PutOut w.heap.size (putMsgF m) w) := by
  obtain ⟨kind, ⟨f1, f2⟩, ⟨t1, t2⟩, id, n, for_, code, key, recs, vec, path, hashes, route⟩ := m
  obtain ⟨⟨A8, c8⟩, ⟨A9, c9⟩, ⟨A10, c10⟩, ⟨A11, c11⟩, ⟨A12, c12⟩⟩ := a
  obtain ⟨ht, hk, hl⟩ := hf
  exact putmsg_any kind f1 f2 t1 t2 id n for_ code key recs vec path hashes route A8 A9 A10 A11 A12 c8 c9 c10 c11 c12 _ _ _ _ _ rfl rfl rfl rfl rfl ht.2.2.1 hk ht hbig w hr
theorem same_at (m : Ms) (a a' : Pl) (hf : Fit m) (w : World) (hr : MsgI w 0 w.heap.size m a) (hr' : MsgI w 0 w.heap.size m a') :
    Calls Tryz.prog 20 #[.agg (mcc m a).toArray, .agg (mcc m a').toArray] w (fun e w' => e = .returned (.bool true) ∧ Below w.heap.size w w') := by
  obtain ⟨kind, ⟨f1, f2⟩, ⟨t1, t2⟩, id, n, for_, code, key, recs, vec, path, hashes, route⟩ := m
  obtain ⟨⟨A8, c8⟩, ⟨A9, c9⟩, ⟨A10, c10⟩, ⟨A11, c11⟩, ⟨A12, c12⟩⟩ := a
  obtain ⟨⟨A8', c8'⟩, ⟨A9', c9'⟩, ⟨A10', c10'⟩, ⟨A11', c11'⟩, ⟨A12', c12'⟩⟩ := a'
  obtain ⟨ht, hk, h1, h2, h3, h4⟩ := hf
  exact same_any kind f1 f2 t1 t2 id n for_ code key recs vec path hashes route A8 A9 A10 A11 A12 A8' A9' A10' A11' A12' c8 c9 c10 c11 c12 c8' c9' c10' c11' c12' _ _ _ _ _ rfl rfl rfl rfl rfl ht.2.2.1 h1 h2 h3 h4 w hr hr'
theorem MsgI.below {m : Ms} {a : Pl} {w w' : World} {B : Nat} (h : MsgI w 0 B m a) (hb : Below B w w') (hs : B ≤ w'.heap.size) : MsgI w' 0 w'.heap.size m a := by
  obtain ⟨kind, ⟨f1, f2⟩, ⟨t1, t2⟩, id, n, for_, code, key, recs, vec, path, hashes, route⟩ := m
  obtain ⟨a8, a9, a10, a11, a12⟩ := a
  obtain ⟨i8, i9, i10, i11, i12⟩ := h
  exact ⟨(i8.below hb).more hs, (i9.below hb).more hs, (i10.below hb).more hs, (i11.below hb).more hs, (i12.below hb).more hs⟩
/-- What code.Msg has made, among the data of a later world. -/
theorem MsgO.shown {m : Ms} {a : Pl} {w : World} {B : Nat} (h : MsgO B w m a) (hm : okM m) : MsgI w 0 w.heap.size m a := by
  refine (h.msgI ?_).less (Nat.zero_le _)
  obtain ⟨kind, ⟨f1, f2⟩, ⟨t1, t2⟩, id, n, for_, code, key, recs, vec, path, hashes, route⟩ := m
  obtain ⟨x0, x1, x2, x3, x4, x5, x6, x7, x8, _⟩ := hm
  intro x hx
  have := x8 x hx
  have h1 := this.2.1
  have h2 := this.2.2.1
  omega
set_option maxRecDepth 100000 in
/-- A message among the arguments. -/
theorem arg_msg {H : Type} {enc : TypeId × Value → H} {W : World} {v : Value} {d : DataW H} {p : List MemPlace} {r : Reach} {b0 : Nat} (hv : Value.okWide Tryz.prog W r b0 45 v) (h : DataW.Trod enc Tryz.prog W 0 (fun _ => true) true 45 v d p) (hw : Wt Tryz.prog 45 d) :
    ∃ (m : Ms) (a : Pl), v = .agg (mcc m a).toArray ∧ MsgI W 0 W.heap.size m a ∧ Fit m ∧ m.2.2.2.2.2.2.2.2.1.length ≤ Rows.uptoBulk d := by
  obtain ⟨kind, f1, f2, t1, t2, id, nn, for_, code, key, recs, vec, path, hashes, route, A8, A9, A10, A11, A12, c8, c9, c10, c11, c12, h1, h2, h3, h4, h5, h6⟩ := open_msg hv h hw
  exact ⟨_, _, h1, h2, ⟨h3, h4, h5⟩, h6⟩
end Code
end Go.Proofs.YtegiigeelcnemaaGreat
