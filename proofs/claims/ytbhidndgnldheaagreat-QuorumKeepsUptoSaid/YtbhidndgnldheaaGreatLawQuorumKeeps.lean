/-
 QuorumKeeps: what an asking is given stays the caller's, and what it tells isn't kept. Up to a bulk of the input.
-/
import Derived.Test.YtbhidndgnldheaaGreatK15
import Derived.Test.YtbhidndgnldheaaGreatK16
import Derived.Test.YtbhidndgnldheaaGreatK18
import Derived.Test.YtbhidndgnldheaaGreatK14
import Derived.Test.YtbhidndgnldheaaGreatK19
import Derived.Test.YtbhidndgnldheaaGreatK8
namespace Go.Proofs.YtbhidndgnldheaaGreat
namespace QuorumKeeps
open Go.ChangeShapes Go.WideShapes Go.ChangeAt Go.RowKit Vers Span Num Blk Quorum
open Tree (Spo SoftV HardAt SoftAt MV spo_refl softV_v softV_v2 softV_s softV_r recN_mv hard_cell own_obj)
open Go.Proofs.YtbhidndgnldheaaGreat.Code hiding Bn Rs
attribute [local go_sem ↓] Go.wp_at_zero Go.wp_at_succ
def RI (F : Nat → Prop) (w : World) (rb : Nat) (l : List En) : Prop := ∃ n lb cl cb ab ps, Core 68 F w rb 1 l n lb cl cb ab [] ∧ Ans F w l ps cb ab
def SI (F : Nat → Prop) (w : World) (rb : Nat) (l : List ES) : Prop := ∃ n lb cl cb ab ps, Core 80 F w rb 1 (l.map co) n lb cl cb ab [] ∧ AnsS F w l ps cb ab
section
variable {F : Nat → Prop} {w w' : World} {rb : Nat} {l : List En} {ls : List ES}
theorem RI.keep (h : RI F w rb l) (hs : w.heap.size ≤ w'.heap.size) (hk : ∀ k, F k → w'.heap[k]? = w.heap[k]?) : RI F w' rb l := by
 obtain ⟨n, lb, cl, cb, ab, ps, h1, h2⟩ := h
 exact ⟨n, lb, cl, cb, ab, ps, h1.keep hs hk, h2.keep hs (hk ab h1.2.2.2.1.2.2.2.1) fun k hf _ _ => hk k hf⟩
theorem RI.lt (h : RI F w rb l) : ∀ k, F k → k < w.heap.size := by
 obtain ⟨n, lb, cl, cb, ab, ps, h1, h2⟩ := h
 exact h1.lt
theorem RI.below (h : RI F w rb l) (hb : Below w.heap.size w w') : RI F w' rb l := h.keep hb.size fun k hk => hb.block k (h.lt k hk)
theorem SI.keep (h : SI F w rb ls) (hs : w.heap.size ≤ w'.heap.size) (hk : ∀ k, F k → w'.heap[k]? = w.heap[k]?) : SI F w' rb ls := by
 obtain ⟨n, lb, cl, cb, ab, ps, h1, h2⟩ := h
 exact ⟨n, lb, cl, cb, ab, ps, h1.keep hs hk, h2.keep hs (hk ab h1.2.2.2.1.2.2.2.1) fun k hf _ _ => hk k hf⟩
theorem SI.lt (h : SI F w rb ls) : ∀ k, F k → k < w.heap.size := by
 obtain ⟨n, lb, cl, cb, ab, ps, h1, h2⟩ := h
 exact h1.lt
theorem SI.below (h : SI F w rb ls) (hb : Below w.heap.size w w') : SI F w' rb ls := h.keep hb.size fun k hk => hb.block k (h.lt k hk)
theorem RI.vers (h : RI F w rb l) : Calls Tryz.prog 10 #[hd rb] w (GotVo (versF l) w) := by
 obtain ⟨n, lb, cl, cb, ab, ps, h1, h2⟩ := h
 exact vers_own_any h1 h2
theorem SI.recs (h : SI F w rb ls) : Calls Tryz.prog 11 #[hd rb] w (RecsP (Mend.takeR [] (allS ls)).1 w) := by
 obtain ⟨n, lb, cl, cb, ab, ps, h1, h2⟩ := h
 exact recs_any h1 h2
theorem RI.got (h : RI F w rb l) (hnd : (l.map Prod.fst).Nodup) (node : Int) (A : Option Addr) (c m : Nat) (an : List Vr) (hm : an.length = m) (hbig : m ≤ 140737488355328) (hv : Vs w 0 w.heap.size A an) {b : Bool} {l' : List En} (hc : gotF l node an = (b, l')) :
  Calls Tryz.prog 8 #[hd rb, .int .i64 node, .slice A m c] w fun e w' => e = .returned (.bool b) ∧ Hid (∃ F', RI F' w' rb l' ∧ Stp F w F' w') := by
 obtain ⟨n, lb, cl, cb, ab, ps, h1, h2⟩ := h
 refine (got_any h1 h2 hnd node A c m an hm hbig hv hc).mono fun e w' ⟨e1, h⟩ => ⟨e1, Lib.hid ?_⟩
 obtain ⟨F', ps', k1, k2, k3⟩ := h.out
 exact ⟨F', ⟨n, lb, cl, cb, ab, ps', k1, k2⟩, k3⟩
theorem SI.got (h : SI F w rb ls) (hnd : (ls.map Prod.fst).Nodup) (node : Int) (A : Option Addr) (c m : Nat) (an : List Rc) (hm : an.length = m) (hbig : m ≤ 1048576) (hv : Code.Rs w 0 w.heap.size A an) {b : Bool} {l' : List ES} (hc : gotS ls node an = (b, l')) :
  Calls Tryz.prog 9 #[hd rb, .int .i64 node, .slice A m c] w fun e w' => e = .returned (.bool b) ∧ Hid (∃ F', SI F' w' rb l' ∧ Stp F w F' w') := by
 obtain ⟨n, lb, cl, cb, ab, ps, h1, h2⟩ := h
 refine (gotS_any h1 h2 hnd node A c m an hm hbig hv hc).mono fun e w' ⟨e1, h⟩ => ⟨e1, Lib.hid ?_⟩
 obtain ⟨F', ps', k1, k2, k3⟩ := h.out
 exact ⟨F', ⟨n, lb, cl, cb, ab, ps', k1, k2⟩, k3⟩
end
theorem spo_heap {S : TypeId → Nat → Prop} {lo hi : Nat} {W wr : World} (h : Spo S lo hi W wr) (k : Nat) (hk : k < lo ∨ hi ≤ k) : wr.heap[k]? = W.heap[k]? := by
 rcases hk with hk | hk
 ·exact h.1.block k hk
 ·exact h.2.2.1 k hk
theorem ok21 : okL [2, 1] 1 := by decide
theorem got1 {l : List Vr} (h : RightV l) : gotF (startF [2, 1]) 2 l = (true, [(2, true, l), (1, false, [])]) := by
 unfold gotF
 rw [if_pos h]
 rfl
theorem got2 (l : List Vr) : gotF [(2, true, l), (1, false, [])] 7 [] = (false, [(2, true, l), (1, false, [])]) := by
 unfold gotF
 split
 ·rfl
 ·rfl
theorem right_nil : RightV [] := ⟨by simp, ⟨by simp, List.Pairwise.nil⟩, by simp⟩
theorem merge_nil {a : List Vr} (ra : RightV a) : mergeF [] a = (a, 0) := by
 have nt : ¬ Vers.Twin [] a := fun ⟨x, hx, _⟩ => by cases hx
 have key : a = stayF [] a := stay_one right_nil ra nt ⟨ra.2.1.2, fun v => ⟨fun hv => ⟨.inr hv, by simp [Vers.behind], ra.2.2 v hv⟩, fun h => h.1.elim (fun q => by cases q) id⟩⟩
 rw [merge_ok right_nil ra nt (by rw [← key]; have := ra.1; omega), ← key]
theorem vers1 {l : List Vr} (h : RightV l) : versF [(2, true, l), (1, false, [])] = l := by
 show mrg [] l = l
 unfold mrg
 rw [merge_nil h]
 rfl
theorem got3 {l : List Rc} {b : Bool} (h : decide (∀ x ∈ l, okR x) = b) : gotS (startS [2, 1]) 2 l = (b, if b = true then [(2, true, l), (1, false, [])] else startS [2, 1]) := by
 subst h
 unfold gotS
 by_cases hc : ∀ x ∈ l, okR x
 ·rw [if_pos hc, decide_eq_true hc, if_pos rfl]
  rfl
 ·rw [if_neg hc, decide_eq_false hc]
  rfl
theorem now_len6 (l : List Rc) : ∀ was : List Rc, (Mend.nowF was l).length ≤ was.length + l.length := by
 induction l with
 | nil => intro was; simp [Mend.nowF]
 | cons r l ih =>
  intro was
  have h1 := ih (Mend.mergeR was r)
  have h2 := Mend.merge_len was r
  unfold Mend.nowF at h1 ⊢
  simp only [List.foldl_cons, List.length_cons]
  omega
theorem take_len6 (l l' : List Rc) : (Mend.takeR l l').1.length ≤ l.length + l'.length := by
 unfold Mend.takeR
 split
 ·unfold Mend.takeF
  have h1 := List.length_filter_le (fun r : Rc => !decide (r.2 = Mend.getF (Mend.heldF l) r.1)) (Mend.nowF (Mend.heldF l) l')
  have h2 := now_len6 l' (Mend.heldF l)
  have h3 := Mend.held_len l
  simp only
  omega
 ·simp
def leS (l : List Rc) (b : Bool) : List ES := if b = true then [(2, true, l), (1, false, [])] else startS [2, 1]
theorem all_len (l : List Rc) (b : Bool) : (allS (leS l b)).length ≤ l.length := by
 cases b
 ·simp [allS, leS, startS]
 ·simp [allS, leS]
theorem all_yes (l : List Rc) : allS (leS l true) = l := by simp [allS, leS]
set_option maxRecDepth 100000 in
set_option maxHeartbeats 4000000 in
theorem walk (w : World) (A : Option Addr) (c : Nat) (l : List Vr) (hl : Vs w 0 w.heap.size A l) (_hb : l.length * 64 ≤ 140737488351232) (_hlc : l.length ≤ c)
  (A' : Option Addr) (c' : Nat) (l' : List Rc) (hl' : Code.Rs w 0 w.heap.size A' l') (_hb' : l'.length * 40 ≤ 140737488351232) (_hlc' : l'.length ≤ c') (hbulk : l'.length ≤ 1048576) :
  Calls Tryz.prog 3 #[.slice A l.length c, .slice A' l'.length c'] w fun e w' => e = .returned (.bool true) ∧ Below w.heap.size w w' := by
 obtain ⟨i0, hi0, hz0, hz1, hz2⟩ := info_parts info_ver
 obtain ⟨n, hn⟩ : ∃ n, l.length = n := ⟨_, rfl⟩
 obtain ⟨n', hn'⟩ : ∃ n, l'.length = n := ⟨_, rfl⟩
 rw [hn] at _hb
 rw [hn'] at hbulk
 rw [hn, hn']
 have hlW : ∀ W, Below w.heap.size w W → Vs W 0 W.heap.size A l := fun W h => (hl.below h).more h.size
 have hlW' : ∀ W, Below w.heap.size w W → Code.Rs W 0 W.heap.size A' l' := fun W h => (hl'.below h).more h.size
 have HP := Lib.hid (And.intro hn (And.intro hn' (And.intro hlW hlW')))
 have H0 := Lib.hid (awake_any w)
 clear hl hl' hn hn' hlW hlW'
 go_enter Tryz.func3, Tryz.ntmps3
 go_wp2_with fail
 refine H0.out.mono ?_
 rintro e1 w1 ⟨rfl, b1⟩
 have B1 := Lib.hid b1
 have H1 := ref_rightV_any A c n l HP.out.1 w1 (HP.out.2.2.1 _ b1) (by omega)
 clear b1 H0
 by_cases hr : RightV l
 rotate_left
 ·rw [decide_eq_false hr] at H1
  have H1 := Lib.hid H1
  clear hr
  go_wp2_with fail
  refine H1.out.mono ?_
  rintro e2 w2 ⟨rfl, b2⟩
  have B2 := Lib.hid (B1.out.trans (b2.mono B1.out.size))
  have H2 := Lib.hid (awake_any w2)
  clear b2 H1
  go_wp2_with fail
  refine H2.out.mono ?_
  rintro e3 w3 ⟨rfl, b3⟩
  have HF := Lib.hid (B2.out.trans (b3.mono B2.out.size))
  clear b3 H2
  go_wp2_with fail
  go_ret
  exact ⟨rfl, HF.out⟩
 ·rw [decide_eq_true hr] at H1
  have H1 := Lib.hid H1
  have hn512 : n ≤ 512 := by rw [← HP.out.1]; exact hr.1
  have HR := Lib.hid hr
  clear hr
  go_wp2_with fail
  refine H1.out.mono ?_
  rintro e2 w2 ⟨rfl, b2⟩
  obtain ⟨lb0, hlb0⟩ : ∃ b, w2.heap.size = b := ⟨_, rfl⟩
  obtain ⟨W3, hW3⟩ : ∃ W, w2.alloc (.cells #[.int .i64 2, .int .i64 1] 3) = W := ⟨_, rfl⟩
  have b3 : Below w2.heap.size w2 W3 := by rw [← hW3]; exact (Below.refl _ w2).alloc (Nat.le_refl _) _
  have B3 : Bn lb0 3 [.int .i64 2, .int .i64 1] W3 := by rw [← hW3, ← hlb0]; exact heap_alloc_new w2 _
  have bw2 := B1.out.trans (b2.mono B1.out.size)
  have bw3 : Below w.heap.size w W3 := bw2.trans (b3.mono bw2.size)
  have n3 : ∀ V, Bn lb0 3 [.int .i64 2, .int .i64 1] V → Ns .i64 V V.heap.size (some ⟨lb0, 0, none⟩) [2, 1] := fun V hV _ => ⟨lb0, 0, rfl, hV.lt, fun j hj => by
   have hj2 : j < 2 := hj
   rw [Nat.zero_add, hV.cell j]
   match j, hj2 with
   | 0, _ => rfl
   | 1, _ => rfl⟩
  have hw0 : w.heap.size ≤ lb0 := by rw [← hlb0]; exact bw2.size
  have H3 := Lib.hid (newR_any (some ⟨lb0, 0, none⟩) 2 2 [2, 1] rfl 1 W3 (n3 W3 B3) (by omega) (Nat.le_refl _))
  have HN3 := Lib.hid n3
  have BW3 := Lib.hid (And.intro bw3 (And.intro B3 hw0))
  clear b2 b3 bw2 bw3 B3 n3 H1 B1
  go_wp2_with fail
  clear hlb0 hW3
  refine H3.out.mono ?_
  rintro e4 w4 (⟨hno, _⟩ | ⟨_, rb, lb, cl, cb, ab, rfl, h4⟩)
  ·exact absurd ok21 hno
  have b4 := h4.out.2.2
  have R4 : Hid (RI (fun k => W3.heap.size ≤ k ∧ k < w4.heap.size) w4 rb (startF [2, 1])) := Lib.hid ⟨2, lb, cl, cb, ab, _, h4.out.1, h4.out.2.1⟩
  have B4 := BW3.out.2.1.same (b4.block lb0 BW3.out.2.1.lt)
  have bw4 := BW3.out.1.trans (b4.mono BW3.out.1.size)
  have H4 := Lib.hid (newS_any (some ⟨lb0, 0, none⟩) 2 2 [2, 1] rfl 1 w4 (HN3.out w4 B4) (by omega) (Nat.le_refl _))
  have BW4 := Lib.hid (And.intro bw4 (And.intro B4 (And.intro BW3.out.2.1.lt (And.intro BW3.out.2.2 b4.size))))
  clear h4 b4 B4 bw4 H3 HN3 BW3
  go_wp2_with fail
  refine H4.out.mono ?_
  rintro e5 w5 (⟨hno, _⟩ | ⟨_, sb, sl, scl, scb, sab, rfl, h5⟩)
  ·exact absurd ok21 hno
  have b5 := h5.out.2.2
  have S5 : Hid (SI (fun k => w4.heap.size ≤ k ∧ k < w5.heap.size) w5 sb (startS [2, 1])) := Lib.hid ⟨2, sl, scl, scb, sab, _, by rw [co_start]; exact h5.out.1, h5.out.2.1⟩
  have R5 := Lib.hid (R4.out.below b5)
  have B5 := BW4.out.2.1.same (b5.block lb0 BW4.out.2.1.lt)
  have bw5 := BW4.out.1.trans (b5.mono BW4.out.1.size)
  have z0 := (B5.cell 0).trans rfl
  have z1 := B5.frozen 0
  obtain ⟨W6, hW6⟩ : ∃ W, w5.setCell ⟨lb0, 0, none⟩ (.int .i64 7) = W := ⟨_, rfl⟩
  have g6 := gset w5 lb0 0 (.int .i64 7)
  rw [hW6] at g6
  have hl0 := B5.lt
  have hne : ∀ k, W3.heap.size ≤ k → k ≠ lb0 := fun k hk e => by have := BW4.out.2.2.1; omega
  have R6 : Hid (RI (fun k => W3.heap.size ≤ k ∧ k < w4.heap.size) W6 rb (startF [2, 1])) := Lib.hid (R5.out.keep g6.size fun k hk => g6.block k (R5.out.lt k hk) (by intro e; injection e with e; exact hne k hk.1 e))
  have S6 : Hid (SI (fun k => w4.heap.size ≤ k ∧ k < w5.heap.size) W6 sb (startS [2, 1])) := Lib.hid (S5.out.keep g6.size fun k hk => g6.block k (S5.out.lt k hk) (by intro e; injection e with e; exact hne k (by have := BW4.out.2.2.2.2; have := hk.1; omega) e))
  have bw6 : Below w.heap.size w W6 := bw5.grown g6 bw5.size fun j hj => by injection hj with hj; have := BW4.out.2.2.2.1; omega
  have hs34 := BW4.out.2.2.2.2
  have hs45 := b5.size
  have hs56 := g6.size
  have hvl := HP.out.2.2.1 _ bw6
  have B6 := Lib.hid (And.intro bw6 (And.intro hs34 (And.intro hs45 hs56)))
  have hw33 : w.heap.size ≤ W3.heap.size := by have := BW4.out.2.2.1; have := BW4.out.2.2.2.1; omega
  have HW33 := Lib.hid hw33
  clear h5 b5 B5 bw5 g6 hl0 hne bw6 hs34 hs45 hs56 hw33 H4 R4 R5 S5 BW4
  have hbase : W6.heap.size ≤ W6.heap.size := Nat.le_refl _
  have ho0 : W6.ownsRow W6.heap.size 40 5 (.slice none 0 0) 0 (vcs []) := World.ownsRow_nil _ _ _ _
  have hnl := HP.out.1
  go_wp2_with (at_builtin; refine wpList_append_vs _ rfl (.tmp 56) (.tmp 57) 22 rfl W6.heap.size 40 i0 _ 64 Tryz.underlying22 hi0 hz0 hz1 hz2 rfl _ 0 [] rfl ho0 0 W6.heap.size A n c l hnl rfl hvl (by omega) (by omega) hbase ?_; intro v7 w7 qs hq1 hq2 o7 g7 _; rw [Nat.zero_add, List.nil_append] at o7; obtain ⟨A7, c7, rfl⟩ := own_form o7
               have s67 := g7.size
               have b7 : Below W6.heap.size W6 w7 := (Below.refl _ _).grown g7 (Nat.le_refl _) (fun k hk => by cases hk)
               have hql : qs.length = n := by rw [← hnl, ← hq1, List.length_map]
               have hv7 : Vs w7 0 w7.heap.size A7 l := by
                 have h : OwnVs W6.heap.size 0 W6.heap.size w7 (.slice A7 n c7) qs := ⟨by rw [hql]; exact o7, fun p hp => (hq2 p hp).below b7⟩
                 have h2 := h.vs (Nat.zero_le _) s67
                 rwa [hq1] at h2
               have H7 := Lib.hid ((R6.out.below b7).got (by decide) 2 A7 c7 n l hnl (by omega) hv7 (got1 HR.out))
               have S7 := Lib.hid (S6.out.below b7)
               have B7 := Lib.hid (And.intro o7 (And.intro b7 (B6.out.1.trans (b7.mono B6.out.1.size))))
               clear o7 b7 hq1 hq2 hql hv7 g7 R6 S6 ho0 hvl)
  clear hnl
  refine H7.out.mono ?_
  rintro e8 w8 ⟨rfl, h8⟩
  obtain ⟨Fr, r8, st8⟩ := h8.out
  have hs8 := st8.1.size
  have hold := st8.old (B7.out.2.2) (fun k hk => by have := HW33.out; have := hk.1; omega)
  have bw8 := hold.1
  have HFL := Lib.hid hold.2
  clear hold
  have sm8 : SI (fun k => w4.heap.size ≤ k ∧ k < w5.heap.size) w8 sb (startS [2, 1]) := S7.out.keep hs8 fun k hk => st8.1.block k (S7.out.lt k hk) (fun e => by have := hk.1; have := e.2; omega)
  have hb6 := B6.out
  have hFr : ∀ k, Fr k → k < w4.heap.size ∨ w7.heap.size ≤ k := fun k hk => (st8.2 k hk).elim (fun h => .inl h.2) .inr
  have hmine : ∀ i, i < n → ∃ g, A7 = some ⟨g, 0, none⟩ ∧ SoftAt SoftV W6.heap.size w7.heap.size w8 g (i * 5 + 4) := fun i hi => by
   obtain ⟨g, cur, e, hg1, hg2, hg3, hg4, _⟩ := own_obj B7.out.1 (by omega)
   exact ⟨g, e, hg1, hg2, cur, _, (st8.1.block g hg2 (fun h => by have := h.2; omega)).trans hg3, by omega, softV_v _ (by omega)⟩
  obtain ⟨q, hq⟩ : ∃ q, decide (∀ x ∈ l', okR x) = q := ⟨_, rfl⟩
  have H8 := Lib.hid (sm8.got (by decide) 2 A' c' n' l' HP.out.2.1 hbulk (HP.out.2.2.2 _ bw8) (got3 hq))
  have HM8 := Lib.hid (And.intro r8 (And.intro hFr (And.intro hmine (And.intro bw8 hs8))))
  clear h8 r8 st8 hs8 bw8 sm8 hb6 hFr hmine H7 S7 hq
  go_wp2_with fail
  refine H8.out.mono ?_
  rintro e9 w9 ⟨rfl, h9⟩
  obtain ⟨Fs, s9, st9⟩ := h9.out
  have hs9 := st9.1.size
  have hb6 := B6.out
  have hs78 := HM8.out.2.2.2.2
  have hs67 := B7.out.2.1.size
  have bw9 := (st9.old (HM8.out.2.2.2.1) (fun k hk => by have := hk.1; have := HW33.out; omega)).1
  have hFs : ∀ k, Fs k → k < W6.heap.size ∨ w7.heap.size ≤ k := fun k hk => (st9.2 k hk).elim (fun h => .inl (by have := h.2; omega)) fun h => .inr (by omega)
  have hmid : ∀ k, k < w8.heap.size → (k < w4.heap.size ∨ W6.heap.size ≤ k) → w9.heap[k]? = w8.heap[k]? := fun k hk h => st9.1.block k hk (fun e => by have := e.1; have := e.2; omega)
  have r9 : RI Fr w9 rb [(2, true, l), (1, false, [])] := HM8.out.1.keep hs9 fun k hk => hmid k (HM8.out.1.lt k hk) ((HM8.out.2.1 k hk).elim .inl fun h => .inr (by omega))
  have hFr9 : ∀ k, Fr k → k < W6.heap.size ∨ w7.heap.size ≤ k := fun k hk => (HM8.out.2.1 k hk).elim (fun h => .inl (by omega)) .inr
  have hmine : ∀ i, i < n → ∃ g, A7 = some ⟨g, 0, none⟩ ∧ SoftAt SoftV W6.heap.size w7.heap.size w9 g (i * 5 + 4) := fun i hi => by
   obtain ⟨g, e, hs⟩ := HM8.out.2.2.1 i hi
   exact ⟨g, e, hs.same (hmid g (by have := hs.2.1; omega) (.inr hs.1))⟩
  have HM9 := Lib.hid (And.intro r9 (And.intro hFr9 (And.intro s9 (And.intro hFs (And.intro hmine (And.intro bw9 (show w.heap.size ≤ W6.heap.size from hb6.1.size)))))))
  clear h9 s9 st9 hs9 bw9 hFs hmid r9 hFr9 hmine hb6 hs67 hs78 HM8 B7 H8
  go_wp2_with fail
  go_loopw [12] (fun iv wr => ∃ i : Nat, iv = .int .i64 i ∧ i ≤ n ∧ Hid (Spo SoftV W6.heap.size w7.heap.size w9 wr)) (fun iv _ => n - (intOf iv).toNat)
  case atStart => exact ⟨0, rfl, by omega, Lib.hid (spo_refl _ _ _ _)⟩
  case round =>
   obtain ⟨i, rfl, hi, hst⟩ := hrel
   by_cases hlt : i < n
   ·have d1 : (0 : Int) ≤ (i : Int) := by omega
    have d2 : (i : Int) < (n : Int) := by omega
    obtain ⟨g, rfl, hs1⟩ := HM9.out.2.2.2.2.1 i hlt
    obtain ⟨⟨z, hz⟩, hfz, hput⟩ := hst.out.put hs1
    have HP2 := Lib.hid hput
    clear hst hs1 hput
    go_wp2_with fail
    go_roundw
    case rel => exact ⟨i + 1, by go_num, by omega, Lib.hid (HP2.out _)⟩
    case measure => simp only [intOf]; omega
   ·have him : i = n := by omega
    subst him
    have hsz9 := hst.out.2.1
    have r10 : RI Fr wr rb [(2, true, l), (1, false, [])] := HM9.out.1.keep (by omega) fun k hk => spo_heap hst.out k (HM9.out.2.1 k hk)
    have s10 : SI Fs wr sb (leS l' q) := (show SI Fs w9 sb (leS l' q) from HM9.out.2.2.1).keep (by omega) fun k hk => spo_heap hst.out k (HM9.out.2.2.2.1 k hk)
    have bw10 : Below w.heap.size w wr := HM9.out.2.2.2.2.2.1.trans (hst.out.1.mono HM9.out.2.2.2.2.2.2)
    have hv := r10.vers
    rw [vers1 HR.out] at hv
    unfold GotVo at hv
    simp only [HP.out.1] at hv
    have HV := Lib.hid hv
    have M10 := Lib.hid (And.intro r10 (And.intro s10 bw10))
    clear hst hsz9 r10 s10 bw10 hv HM9
    go_wp2_with fail
    refine HV.out.mono ?_
    rintro e10 w10 ⟨A10, c10, rfl, h10, b10⟩
    obtain ⟨L9, B9, hL9, hB9, h10⟩ := h10.out
    have hmv : MV SoftV 4 wr.heap.size w10.heap.size w10 A10 i := by
     have h := recN_mv h10 hL9 hB9 (by omega) softV_v softV_v2 softV_s
     simp only at h
     rwa [HP.out.1] at h
    obtain ⟨lo2, hlo2⟩ : ∃ x, wr.heap.size = x := ⟨_, rfl⟩
    have hF2 : ∀ k, Fr k → k < lo2 := fun k hk => by rw [← hlo2]; exact M10.out.1.lt k hk
    have hF3 : ∀ k, Fs k → k < lo2 := fun k hk => by rw [← hlo2]; exact M10.out.2.1.lt k hk
    have bw10 := M10.out.2.2.trans (b10.mono M10.out.2.2.size)
    have hwl : w.heap.size ≤ lo2 := by rw [← hlo2]; exact M10.out.2.2.size
    rw [hlo2] at hmv
    have N10 := Lib.hid (And.intro (M10.out.1.below b10) (And.intro (M10.out.2.1.below b10) (And.intro bw10 (And.intro hF2 (And.intro hF3 (And.intro hmv hwl))))))
    clear h10 b10 hmv hF2 hF3 bw10 hwl M10 HV hL9 hB9
    go_wp2_with fail
    clear hlo2
    go_loopw [14] (fun iv wr => ∃ j : Nat, iv = .int .i64 j ∧ j ≤ i ∧ Hid (Spo SoftV lo2 w10.heap.size w10 wr)) (fun iv _ => i - (intOf iv).toNat)
    case atStart => exact ⟨0, rfl, by omega, Lib.hid (spo_refl _ _ _ _)⟩
    case round =>
     obtain ⟨j, rfl, hj, hst⟩ := hrel
     by_cases hlt2 : j < i
     ·have d1 : (0 : Int) ≤ (j : Int) := by omega
      have d2 : (j : Int) < (i : Int) := by omega
      obtain ⟨g, P, k, cp, rfl, hs1, hh1, hk1, hsp⟩ := N10.out.2.2.2.2.2.1 j hlt2
      have HQ := Lib.hid (And.intro hh1 hsp)
      clear hs1 hh1 hsp
      go_wp2_with fail
      go_loopw [15] (fun iv wr => ∃ t : Nat, iv = .int .i64 t ∧ t ≤ k ∧ Hid (Spo SoftV lo2 w10.heap.size w10 wr)) (fun iv _ => k - (intOf iv).toNat)
      case atStart => exact ⟨0, rfl, by omega, hst⟩
      case round =>
       clear hst
       obtain ⟨t, rfl, ht, hst⟩ := hrel
       have y2 := hst.out.get HQ.out.1
       by_cases hlt3 : t < k
       ·have d3 : (0 : Int) ≤ (t : Int) := by omega
        have d4 : (t : Int) < (k : Int) := by omega
        obtain ⟨b, off, rfl, hs2⟩ := HQ.out.2 t hlt3
        obtain ⟨⟨z, hz⟩, hfz, hput⟩ := hst.out.put hs2
        have HP3 := Lib.hid hput
        clear hst hs2 hput
        go_wp2_with fail
        go_roundw
        case rel => exact ⟨t + 1, by go_num, by omega, Lib.hid (HP3.out _)⟩
        case measure => simp only [intOf]; omega
       ·have hjk : t = k := by omega
        subst hjk
        go_wp2_with fail
        go_roundw
        case rel => exact ⟨j + 1, by go_num, by omega, hst⟩
        case measure => simp only [intOf]; omega
     ·have hji : j = i := by omega
      subst hji
      have hsz := hst.out.2.1
      have r11 : RI Fr wr rb [(2, true, l), (1, false, [])] := N10.out.1.keep (by omega) fun k hk => spo_heap hst.out k (.inl (N10.out.2.2.2.1 k hk))
      have s11 : SI Fs wr sb (leS l' q) := N10.out.2.1.keep (by omega) fun k hk => spo_heap hst.out k (.inl (N10.out.2.2.2.2.1 k hk))
      have bw11 : Below w.heap.size w wr := N10.out.2.2.1.trans (hst.out.1.mono N10.out.2.2.2.2.2.2)
      have hlR := take_len6 [] (allS (leS l' q))
      have hlA := all_len l' q
      obtain ⟨R, hR⟩ : ∃ R, (Mend.takeR [] (allS (leS l' q))).1 = R := ⟨_, rfl⟩
      have hv := s11.recs
      rw [hR] at hv hlR
      have hRl : R.length ≤ n' := by have := HP.out.2.1; simp only [List.length_nil] at hlR; omega
      have HV := Lib.hid hv
      have M11 := Lib.hid (And.intro r11 (And.intro s11 (And.intro bw11 hR)))
      clear hst hsz r11 s11 bw11 hv N10 hlR hlA hR
      go_wp2_with fail
      refine HV.out.mono ?_
      rintro e12 w12 ⟨A5, n5, c5, ps5, rfl, h5, b5⟩
      have hn5 : n5 ≤ n' := by rw [← h5.out.2.1]; exact hRl
      have hl5 : ps5.length = n5 := by rw [← h5.out.2.1, ← h5.out.1, List.length_map]
      obtain ⟨lo3, hlo3⟩ : ∃ x, wr.heap.size = x := ⟨_, rfl⟩
      have hF2 : ∀ k, Fr k → k < lo3 := fun k hk => by rw [← hlo3]; exact M11.out.1.lt k hk
      have hF3 : ∀ k, Fs k → k < lo3 := fun k hk => by rw [← hlo3]; exact M11.out.2.1.lt k hk
      have bw12 := M11.out.2.2.1.trans (b5.mono M11.out.2.2.1.size)
      have hwl : w.heap.size ≤ lo3 := by rw [← hlo3]; exact M11.out.2.2.1.size
      have N12 := Lib.hid (And.intro (M11.out.1.below b5) (And.intro (M11.out.2.1.below b5) (And.intro bw12 (And.intro hF2 (And.intro hF3 (And.intro hwl M11.out.2.2.2))))))
      rw [hlo3] at h5
      have HM5 : Hid (∀ i, i < n5 → ∃ (g : Nat) (P : Option Addr) (k c : Nat), A5 = some ⟨g, 0, none⟩ ∧ HardAt SoftV w12 g (i * 2 + 1) (.slice P k c) ∧ k ≤ 512 ∧ MV SoftV 4 lo3 w12.heap.size w12 P k) := Lib.hid fun i hi => by
       obtain ⟨g, e1, hg, hprs, ⟨cur, hcur⟩, hrec⟩ := h5.out.2.2.2 (by omega)
       have hmem : ps5.getD i (r0, none, 0) ∈ ps5 := by
        rw [List.getD_eq_getElem?_getD, List.getElem?_eq_getElem (by omega)]
        exact List.getElem_mem _
       obtain ⟨L9, B9, q1, q2, _, q4⟩ := hrec _ hmem
       exact ⟨g, _, _, _, e1, hard_cell hcur (hprs i (by omega)).2 (softV_r _), q4.2.2.1, recN_mv q4 q1 q2 (by omega) softV_v softV_v2 softV_s⟩
      clear h5 b5 hl5 hF2 hF3 bw12 hwl M11 HV
      go_wp2_with fail
      clear hlo3
      go_loopw [17] (fun iv wr => ∃ i : Nat, iv = .int .i64 i ∧ i ≤ n5 ∧ Hid (Spo SoftV lo3 w12.heap.size w12 wr)) (fun iv _ => n5 - (intOf iv).toNat)
      case atStart => exact ⟨0, rfl, by omega, Lib.hid (spo_refl _ _ _ _)⟩
      case round =>
       obtain ⟨i2, rfl, hi2, hst⟩ := hrel
       by_cases hlt4 : i2 < n5
       ·have d1 : (0 : Int) ≤ (i2 : Int) := by omega
        have d2 : (i2 : Int) < (n5 : Int) := by omega
        obtain ⟨g, P, k, cp, rfl, hh, hk512, hmv⟩ := HM5.out i2 hlt4
        have HH := Lib.hid (And.intro hh hmv)
        clear hh hmv
        go_wp2_with fail
        go_loopw [18] (fun iv wr => ∃ t : Nat, iv = .int .i64 t ∧ t ≤ k ∧ Hid (Spo SoftV lo3 w12.heap.size w12 wr)) (fun iv _ => k - (intOf iv).toNat)
        case atStart => exact ⟨0, rfl, by omega, hst⟩
        case round =>
         clear hst
         obtain ⟨t, rfl, ht, hst⟩ := hrel
         have y1 := hst.out.get HH.out.1
         by_cases hlt5 : t < k
         ·have d3 : (0 : Int) ≤ (t : Int) := by omega
          have d4 : (t : Int) < (k : Int) := by omega
          obtain ⟨g2, P2, k2, cp2, rfl, hs1, _, _, _⟩ := HH.out.2 t hlt5
          obtain ⟨⟨z, hz⟩, hfz, hput⟩ := hst.out.put hs1
          have HP2 := Lib.hid hput
          clear hst hs1 hput
          go_wp2_with fail
          go_roundw
          case rel => exact ⟨t + 1, by go_num, by omega, Lib.hid (HP2.out _)⟩
          case measure => simp only [intOf]; omega
         ·have hjk : t = k := by omega
          subst hjk
          go_wp2_with fail
          go_roundw
          case rel => exact ⟨i2 + 1, by go_num, by omega, hst⟩
          case measure => simp only [intOf]; omega
       ·have him2 : i2 = n5 := by omega
        subst him2
        have hsz := hst.out.2.1
        have r13 : RI Fr wr rb [(2, true, l), (1, false, [])] := N12.out.1.keep (by omega) fun k hk => spo_heap hst.out k (.inl (N12.out.2.2.2.1 k hk))
        have s13 : SI Fs wr sb (leS l' q) := N12.out.2.1.keep (by omega) fun k hk => spo_heap hst.out k (.inl (N12.out.2.2.2.2.1 k hk))
        have bw13 : Below w.heap.size w wr := N12.out.2.2.1.trans (hst.out.1.mono N12.out.2.2.2.2.2.1)
        have hT := Lib.hid (Mend.ref_take_any none A' 0 c' 0 n' [] l' rfl HP.out.2.1 (by omega) wr (Code.Rs.nil _) (HP.out.2.2.2 _ bw13))
        have M13 := Lib.hid (And.intro r13 (And.intro s13 (And.intro bw13 N12.out.2.2.2.2.2.2)))
        clear hst hsz r13 s13 bw13 N12 HM5
        go_wp2_with fail
        refine hT.out.mono ?_
        rintro e14 w14 ⟨A14, m14, c14, rfl, h14, b14⟩
        have hv := (M13.out.1.below b14).vers
        rw [vers1 HR.out] at hv
        unfold GotVo at hv
        simp only [HP.out.1] at hv
        have HV := Lib.hid hv
        have bw14 := M13.out.2.2.1.trans (b14.mono M13.out.2.2.1.size)
        have M14 := Lib.hid (And.intro (M13.out.1.below b14) (And.intro (M13.out.2.1.below b14) (And.intro bw14 (And.intro M13.out.2.2.2 h14.out))))
        clear h14 b14 hv bw14 M13 hT
        go_wp2_with fail
        refine HV.out.mono ?_
        rintro e15 w15 ⟨A15, c15, rfl, h15, b15⟩
        obtain ⟨L9, B9, _, hB9, h15⟩ := h15.out
        have hv15 : Vs w15 0 w15.heap.size A15 l := (h15.vs.less (Nat.zero_le _)).more hB9
        have bw15 := M14.out.2.2.1.trans (b15.mono M14.out.2.2.1.size)
        have hS := ref_sameV_any A15 A c15 c j j l l HP.out.1 HP.out.1 w15 hv15 (HP.out.2.2.1 _ bw15) (by omega) (by omega)
        rw [decide_eq_true rfl] at hS
        have HS := Lib.hid hS
        have M15 := Lib.hid (And.intro (M14.out.1.below b15) (And.intro (M14.out.2.1.below b15) (And.intro bw15 (And.intro M14.out.2.2.2.1 (And.intro M14.out.2.2.2.2.1 ((M14.out.2.2.2.2.2.2.below b15).more b15.size))))))
        clear h15 b15 hv15 bw15 hS HV M14 hB9
        go_wp2_with fail
        refine HS.out.mono ?_
        rintro e16 w16 ⟨rfl, b16⟩
        have bw16 := M15.out.2.2.1.trans (b16.mono M15.out.2.2.1.size)
        have M16 := Lib.hid (And.intro (M15.out.1.below b16) (And.intro (M15.out.2.1.below b16) (And.intro bw16 (And.intro M15.out.2.2.2.1 (And.intro M15.out.2.2.2.2.1 ((M15.out.2.2.2.2.2.below b16).more b16.size))))))
        clear b16 bw16 M15 HS
        cases q
        ·have HG := Lib.hid (M16.out.1.got (by show ([2, 1] : List Int).Nodup; decide) 7 none 0 0 [] rfl (by omega) (Vs.nil _) (got2 l))
         go_wp2_with fail
         refine HG.out.mono ?_
         rintro e17 w17 ⟨rfl, h17⟩
         obtain ⟨F17, _, st17⟩ := h17.out
         have HF : Hid (Below w.heap.size w w17) := Lib.hid (st17.old M16.out.2.2.1 HFL.out).1
         clear h17 st17 HG
         go_wp2_with fail
         go_ret
         exact ⟨rfl, HF.out⟩
        ·have hR := M16.out.2.2.2.1
         rw [all_yes] at hR
         have hrc := M16.out.2.1.recs
         rw [all_yes, hR] at hrc
         have HRC := Lib.hid hrc
         clear hrc hR
         go_wp2_with fail
         refine HRC.out.mono ?_
         rintro e17 w17 ⟨A17, n17, c17, ps17, rfl, h17, b17⟩
         have hr17 : Code.Rs w17 0 w17.heap.size A17 R := by
          have h := h17.out.2.2.2.rs.less (Nat.zero_le _)
          rwa [h17.out.1] at h
         have hR := M16.out.2.2.2.1
         rw [all_yes] at hR
         have h14l := M16.out.2.2.2.2.1
         have h14r := M16.out.2.2.2.2.2
         rw [hR] at h14l h14r
         have hS2 := Code.srecs_any A17 A14 c17 c14 n17 m14 R R h17.out.2.1 h14l w17 hr17 ((h14r.below b17).more b17.size) (by have := h17.out.2.1; omega) (by omega)
         rw [decide_eq_true rfl] at hS2
         have HS2 := Lib.hid hS2
         have bw17 := M16.out.2.2.1.trans (b17.mono M16.out.2.2.1.size)
         have M17 := Lib.hid (And.intro (M16.out.1.below b17) bw17)
         clear h17 b17 hr17 hR h14l h14r hS2 bw17 HRC M16
         go_wp2_with fail
         refine HS2.out.mono ?_
         rintro e18 w18 ⟨rfl, b18⟩
         have bw18 := M17.out.2.trans (b18.mono M17.out.2.size)
         have HG := Lib.hid ((M17.out.1.below b18).got (by show ([2, 1] : List Int).Nodup; decide) 7 none 0 0 [] rfl (by omega) (Vs.nil _) (got2 l))
         have M18 := Lib.hid bw18
         clear b18 bw18 HS2
         go_wp2_with fail
         refine HG.out.mono ?_
         rintro e19 w19 ⟨rfl, h19⟩
         obtain ⟨F19, _, st19⟩ := h19.out
         have HF : Hid (Below w.heap.size w w19) := Lib.hid (st19.old M18.out HFL.out).1
         clear h19 st19 HG
         go_wp2_with fail
         go_ret
         exact ⟨rfl, HF.out⟩
-- ROW BEGIN
set_option maxRecDepth 100000 in
theorem contract (H : Type) (enc : TypeId × Value → H) (W : World) (base : Nat) (args : Array Value) (ds gs : List (DataW H)) (before : List MemPlace)
  (hval : ∀ (j : Nat) t v, Tryz.f3.params[j]? = some t → args[j]? = some v → Value.okWide Tryz.prog W .any base t v)
  (hW : DataW.Whole enc Tryz.prog Tryz.f3.params.toList Rows.quorumKeepsSpec.vars false W args.toList ds gs before)
  (hsz : (DataW.weightsEach Tryz.prog (Tryz.f3.params.toList ++ Rows.quorumKeepsSpec.plain.varTypes Tryz.prog) (ds ++ gs)).all (· ≤ reachBytes) = true) (hk : Rows.uptoSmall H (ds ++ gs) = true) :
  Calls Tryz.prog 3 args W fun e W' => ∃ v, e = .returned v ∧ Rows.quorumKeepsSpec.post enc Tryz.prog Tryz.f3 false true false false W args v W' := by
 have hW' := hW
 obtain ⟨p, q, hA0, hV, hbef, _, _⟩ := hW
 have hA : DataW.TrodAll enc Tryz.prog W 0 (fun _ => true) true Tryz.f3.params.toList args.toList ds p := hA0
 have hA1 := hA
 rw [Tryz.params3] at hA hval hsz
 obtain ⟨v0, vs0, d0, ds0, p0, q0, hargs, rfl, rfl, h0, r0⟩ := trodAll_cons hA
 obtain ⟨v1, vs1, d1, ds1, p1, q1, rfl, rfl, rfl, h1, r1⟩ := trodAll_cons r0
 obtain ⟨rfl, rfl, rfl⟩ := trodAll_nil r1
 obtain rfl : args = #[v0, v1] := by cases args; simp_all
 obtain ⟨rfl, rfl⟩ := trodVars_none hV
 clear hA hargs
 obtain ⟨A0, c0, a0, rfl, n0, l0, b0⟩ := Vers.open_vs (hval 0 22 v0 rfl rfl) h0 (Vers.wt_arg hsz (j := 0) rfl rfl)
 obtain ⟨A1, c1, a1, rfl, n1, l1, b1⟩ := Tree.arg_recs (hval 1 23 v1 rfl rfl) h1 (Vers.wt_arg hsz (j := 1) rfl rfl)
 have hbulk : a1.length ≤ 1048576 := by
  have h := Bulk.bound hk
  have e1 := Mend.recs_bulk h1
  simp only [List.append_nil, Rows.uptoBulkAll] at h
  omega
 refine (walk W A0 c0 a0 n0 b0 l0 A1 c1 a1 n1 b1 l1 hbulk).mono fun e W' ⟨he, hb⟩ => ?_
 subst he
 exact ⟨_, rfl, law_post Facts.laid (by rfl) Tryz.underlying4 (by rw [Tryz.params3]; decide +kernel) hW' hA1 rfl hbef rfl rfl rfl hb⟩

set_option maxRecDepth 100000 in
theorem lifted (os : Os) (started : os.Started) (H : Type) (enc : TypeId × Value → H) (F : Stop.Interp) :
  ReturnsInHanded {} Tryz.checked os 3 .any ((Rows.OpenSpec.upto Rows.quorumKeepsSpec).pre6 enc Tryz.prog Tryz.f3 Rows.quorumKeepsUptoRow.domain false) (((Rows.OpenSpec.upto Rows.quorumKeepsSpec).at F).post enc Tryz.prog Tryz.f3 false true false false) := by
 refine returnsInHanded_of_cond_sized (C := Tryz.checked) (s := Rows.OpenSpec.upto Rows.quorumKeepsSpec) (k := Rows.uptoSmall) rfl Facts.own started (by kernel_rfl) Tryz.func3
  (OpenSpec.witness (enc := enc) (C := Tryz.checked) (s := Rows.OpenSpec.upto Rows.quorumKeepsSpec) (k := Rows.uptoSmall) rfl false ⟨#[], #[.slice none 0 0, .slice none 0 0], []⟩ 8 (by kernel_rfl) (by kernel_rfl) (by kernel_rfl)
   (x := ([.nil, .nil], [], [])) (by kernel_rfl) rfl (by kernel_rfl)) ?_
 intro W base args ds gs before hval hW _ hk hsz _
 exact contract H enc W base args ds gs before hval hW hsz hk

theorem holds : Rows.QuorumKeepsUptoSaid :=
 OpenClaim.holds_of_cond 3 Tryz.f3 rfl rfl rfl rfl rfl rfl rfl ⟨rfl, rfl, rfl, rfl, rfl⟩ rfl rfl rfl rfl rfl (by kernel_rfl) Tryz.func3 (by kernel_rfl)
  (of_decide_eq_true (by kernel_rfl)) (by unfold Func.isWrapper; first | (rw [if_pos (by decide +kernel)]; kernel_rfl) | (rw [if_neg (by decide +kernel)]; exact ⟨rfl, rfl⟩))
  (fun os started H enc _ F => lifted os started H enc F)
-- ROW END
end QuorumKeeps
end Go.Proofs.YtbhidndgnldheaaGreat
