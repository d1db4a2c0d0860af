/-
  inbox.Ready and Clean: what is taken out, what stays. Written by gen18/ready.py.
-/
import Derived.Test.YtiempgabamheiaaInboxDrop
namespace Go.Proofs.Ytiempgabamheiaa
namespace Inbox
open Go.RowKit Vers Span Blk
attribute [local go_sem ↓] Go.wp_at_zero Go.wp_at_succ

/-- From the address A on stand these far writes. -/
def Fs (w : World) (B : Nat) (A : Option Addr) (l : List Fr) : Prop := 0 < l.length → ∃ b off, A = some ⟨b, off, none⟩ ∧ b < B ∧ ∀ j x, l[j]? = some x → ∃ p1 p2 : Plc, (∀ r u, (fc (x, p1, p2))[r]? = some u → w.cell? ⟨b, off + j * 5 + r, none⟩ = some u) ∧ Vs w 0 B p1.1 x.2.1.2 ∧ Ns .i64 w B p2.1 x.2.2 ∧ SzF x ∧ x.2.1.2.length ≤ p1.2
theorem Fs.below {w w' : World} {B : Nat} {A : Option Addr} {l : List Fr} (h : Fs w B A l) (hb : Below B w w') : Fs w' B A l := fun hp => by
  obtain ⟨b, off, e, h1, h2⟩ := h hp
  refine ⟨b, off, e, h1, fun j x hx => ?_⟩
  obtain ⟨p1, p2, g1, g2, g3, g4⟩ := h2 j x hx
  exact ⟨p1, p2, fun r u hu => (hb.cell (p := ⟨b, off + j * 5 + r, none⟩) h1).trans (g1 r u hu), g2.below hb, g3.below hb, g4⟩
theorem Fs.more {w : World} {B B' : Nat} {A : Option Addr} {l : List Fr} (h : Fs w B A l) (hB : B ≤ B') : Fs w B' A l := fun hp => by
  obtain ⟨b, off, e, h1, h2⟩ := h hp
  refine ⟨b, off, e, by omega, fun j x hx => ?_⟩
  obtain ⟨p1, p2, g1, g2, g3, g4⟩ := h2 j x hx
  exact ⟨p1, p2, g1, g2.more hB, g3.more hB, g4⟩
/-- A row of the call's own, read. -/
theorem own_fs {w : World} {base : Nat} {e : TypeId} {A : Option Addr} {c n : Nat} {l : List FE} (h : w.ownsRow base e 5 (.slice A n c) n (fcs l)) (hn : l.length = n) (hd : ∀ x ∈ l, SzF x.1 ∧ Vs w 0 w.heap.size x.2.1.1 x.1.2.1.2 ∧ Ns .i64 w w.heap.size x.2.2.1 x.1.2.2 ∧ x.1.2.1.2.length ≤ x.2.1.2) : Fs w w.heap.size A (l.map Prod.fst) := fun hp => by
  rw [List.length_map] at hp
  obtain ⟨g, cap, hv, _, hg⟩ := h.form (by omega)
  injection hv with hA _ hcap
  subst hA
  refine ⟨g, 0, rfl, (h.lt g rfl).2, fun j x hx => ?_⟩
  rw [List.getElem?_map] at hx
  obtain ⟨y, hy, rfl⟩ := Option.map_eq_some_iff.1 hx
  have hj := (List.getElem?_eq_some_iff.1 hy).1
  obtain ⟨h1, h2, h3⟩ := hd y (List.mem_of_getElem? hy)
  refine ⟨y.2.1, y.2.2, fun r u hu => ?_, h2, h3.1, h1, h3.2⟩
  have hr : r < 5 := by
    rcases Nat.lt_or_ge r 5 with h | h
    · exact h
    · rw [List.getElem?_eq_none (by simpa [fc] using h)] at hu; cases hu
  rw [hcap] at h
  rw [show 0 + j * 5 + r = j * 5 + r by omega, h.cellAt (j * 5 + r) (by omega), fcs_at l hy r hr]
  exact hu
/-- The same, all of it in the blocks S. -/
def FsP (S : Nat → Prop) (w : World) (A : Option Addr) (l : List Fr) : Prop := 0 < l.length → ∃ b off, A = some ⟨b, off, none⟩ ∧ (S b ∧ b < w.heap.size) ∧ ∀ j x, l[j]? = some x → ∃ p1 p2 : Plc, (∀ r u, (fc (x, p1, p2))[r]? = some u → w.cell? ⟨b, off + j * 5 + r, none⟩ = some u) ∧ SzF x ∧ ∃ L B, Hd w L B (x, p1, p2) ∧ B ≤ w.heap.size ∧ ∀ k, L ≤ k → k < B → S k
theorem FsP.fs {S : Nat → Prop} {w : World} {A : Option Addr} {l : List Fr} (h : FsP S w A l) : Fs w w.heap.size A l := fun hp => by
  obtain ⟨b, off, e, h1, h2⟩ := h hp
  refine ⟨b, off, e, h1.2, fun j x hx => ?_⟩
  obtain ⟨p1, p2, g1, g2, L, B, g3, g4, _⟩ := h2 j x hx
  exact ⟨p1, p2, g1, (g3.1.less (Nat.zero_le _)).more g4, g3.2.1.more g4, g2, g3.2.2.2⟩
theorem FsP.chg {S G : Nat → Prop} {w w' : World} {A : Option Addr} {l : List Fr} (h : FsP S w A l) (hc : Chg G w w') (hS : ∀ k, S k → ¬ G k) : FsP S w' A l := fun hp => by
  obtain ⟨b, off, e, h1, h2⟩ := h hp
  have hs := hc.size
  refine ⟨b, off, e, ⟨h1.1, by omega⟩, fun j x hx => ?_⟩
  obtain ⟨p1, p2, g1, g2, L, B, g3, g4, g5⟩ := h2 j x hx
  exact ⟨p1, p2, fun r u hu => (World.cell?_of_block (hc.block b h1.2 (hS b h1.1))).trans (g1 r u hu), g2, L, B, g3.heap fun k a b => hc.block k (by omega) (hS k (g5 k a b)), by omega, g5⟩
theorem own_fsP {S : Nat → Prop} {w : World} {base : Nat} {e : TypeId} {A : Option Addr} {c n : Nat} {l : List FE} (h : w.ownsRow base e 5 (.slice A n c) n (fcs l)) (hn : l.length = n) (hr : ∀ g, (Value.slice A n c).ownBlock = some g → S g) (hd : ∀ x ∈ l, SzF x.1 ∧ ∃ L B, Hd w L B x ∧ B ≤ w.heap.size ∧ ∀ k, L ≤ k → k < B → S k) : FsP S w A (l.map Prod.fst) := fun hp => by
  rw [List.length_map] at hp
  obtain ⟨g, cap, hv, _, hg⟩ := h.form (by omega)
  injection hv with hA _ hcap
  subst hA
  refine ⟨g, 0, rfl, ⟨hr g rfl, (h.lt g rfl).2⟩, fun j x hx => ?_⟩
  rw [List.getElem?_map] at hx
  obtain ⟨y, hy, rfl⟩ := Option.map_eq_some_iff.1 hx
  have hj := (List.getElem?_eq_some_iff.1 hy).1
  obtain ⟨h1, h2⟩ := hd y (List.mem_of_getElem? hy)
  refine ⟨y.2.1, y.2.2, fun r u hu => ?_, h1, h2⟩
  have hr : r < 5 := by
    rcases Nat.lt_or_ge r 5 with h | h
    · exact h
    · rw [List.getElem?_eq_none (by simpa [fc] using h)] at hu; cases hu
  rw [hcap] at h
  rw [show 0 + j * 5 + r = j * 5 + r by omega, h.cellAt (j * 5 + r) (by omega), fcs_at l hy r hr]
  exact hu
theorem IO.fs {T e : TypeId} {F : Nat → Prop} {w : World} {nb n c : Nat} {room : Int} {A : Option Addr} {l : List FE} (h : IO T e F w nb room A c n l) : Fs w w.heap.size A (l.map Prod.fst) := own_fs h.1.2 h.2.1.1 fun x hx => by
  obtain ⟨s, L, B, g1, g2, _⟩ := h.2.1.2 x hx
  exact ⟨s, (g1.1.less (Nat.zero_le _)).more g2, g1.2.1.more g2, g1.2.2.2⟩

section
variable (fr sq : Int) (key : ByteArray) (Av : Option Addr) (cv : Nat) (lv : List Vr) (Ar : Option Addr) (kr cr : Nat) (A : Option Addr) (c n : Nat) (v : List Int)
set_option maxRecDepth 100000 in
theorem ready1_any (hm1 : lv.length = 1) (hov : okV (lv.getD 0 v0)) (hn : v.length = n) (hbig : n ≤ 140737488355328) (bx : Nat) (w : World) (hbx : w.cell? ⟨bx, 0, none⟩ = some (.slice A n c)) (hv : Vs w 0 w.heap.size Av lv) (hr : Ns .i64 w w.heap.size A v) :
    Calls Try.prog 40 #[.agg #[.int .i64 fr, .int .i64 sq, .string key, .slice Av 1 cv, .slice Ar kr cr], .pointer (some ⟨bx, 0, none⟩)] w (fun e w' => e = .returned (.bool (decide (mayV v (lv.getD 0 v0)))) ∧ Below w.heap.size w w') := by
  have hbl := World.block_lt_of_cell? _ _ hbx
  simp only at hbl
  obtain ⟨U, hU⟩ : ∃ U, w.alloc (.cells #[.int .i64 fr, .int .i64 sq, .string key, .slice Av 1 cv, .slice Ar kr cr] 35) = U := ⟨_, rfl⟩
  have bU : Below w.heap.size w U := by rw [← hU]; exact (Below.refl _ w).alloc (Nat.le_refl _) _
  have BU : Bn w.heap.size 35 [.int .i64 fr, .int .i64 sq, .string key, .slice Av 1 cv, .slice Ar kr cr] U := by rw [← hU]; exact heap_alloc_new w _
  have u0 := (BU.cell 0).trans rfl
  have u1 := (BU.cell 1).trans rfl
  have u2 := (BU.cell 2).trans rfl
  have u3 := (BU.cell 3).trans rfl
  have u4 := (BU.cell 4).trans rfl
  have x0 := (bU.cell (p := ⟨bx, 0, none⟩) hbl).trans hbx
  have HM := Lib.hid (may_any fr sq key Av cv 1 lv hm1 (Nat.le_refl _) hov Ar kr cr A c n v hn hbig U ((hv.below bU).more bU.size) ((hr.below bU).more bU.size))
  have HB := Lib.hid bU
  clear hv hr hn hm1 bU BU hov
  go_enter Try.func40, Try.ntmps40
  go_wp2_with fail
  refine HM.out.mono ?_
  rintro e w2 ⟨rfl, b2⟩
  have HB2 := Lib.hid (HB.out.trans (b2.mono HB.out.size))
  clear b2
  go_wp2_with fail
  go_ret
  exact ⟨rfl, HB2.out⟩
set_option maxRecDepth 100000 in
theorem clean1_any (hm1 : lv.length = 1) (hn : v.length = n) (hbig : n ≤ 140737488355328) (bx : Nat) (w : World) (hbx : w.cell? ⟨bx, 0, none⟩ = some (.slice A n c)) (hv : Vs w 0 w.heap.size Av lv) (hr : Ns .i64 w w.heap.size A v) :
    Calls Try.prog 42 #[.agg #[.int .i64 fr, .int .i64 sq, .string key, .slice Av 1 cv, .slice Ar kr cr], .pointer (some ⟨bx, 0, none⟩)] w (fun e w' => e = .returned (.bool (decide (Vect.CoversV v (lv.getD 0 v0).s (lv.getD 0 v0).n))) ∧ Below w.heap.size w w') := by
  have hbl := World.block_lt_of_cell? _ _ hbx
  simp only at hbl
  obtain ⟨U, hU⟩ : ∃ U, w.alloc (.cells #[.int .i64 fr, .int .i64 sq, .string key, .slice Av 1 cv, .slice Ar kr cr] 35) = U := ⟨_, rfl⟩
  have bU : Below w.heap.size w U := by rw [← hU]; exact (Below.refl _ w).alloc (Nat.le_refl _) _
  have BU : Bn w.heap.size 35 [.int .i64 fr, .int .i64 sq, .string key, .slice Av 1 cv, .slice Ar kr cr] U := by rw [← hU]; exact heap_alloc_new w _
  have u0 := (BU.cell 0).trans rfl
  have u1 := (BU.cell 1).trans rfl
  have u2 := (BU.cell 2).trans rfl
  have u3 := (BU.cell 3).trans rfl
  have u4 := (BU.cell 4).trans rfl
  have x0 := (bU.cell (p := ⟨bx, 0, none⟩) hbl).trans hbx
  obtain ⟨s, hs⟩ : ∃ s, (lv.getD 0 v0).s = s := ⟨_, rfl⟩
  obtain ⟨vn, hvn⟩ : ∃ s, (lv.getD 0 v0).n = s := ⟨_, rfl⟩
  have HD : Hid (∀ V, Below U.heap.size U V → Calls Try.prog 33 #[.agg #[.int .i64 fr, .int .i64 sq, .string key, .slice Av 1 cv, .slice Ar kr cr]] V (fun e w' => e = .returned (.agg #[.int .i64 s, .int .i64 vn]) ∧ Below V.heap.size V w')) := Lib.hid fun V hV => by
    rw [← hs, ← hvn]
    exact dot_any fr sq key Av cv 1 lv hm1 (Nat.le_refl _) Ar kr cr V ((hv.below (bU.trans (hV.mono bU.size))).more (Nat.le_trans bU.size hV.size))
  rw [hs, hvn]
  obtain ⟨q, hq⟩ : ∃ q, decide (Vect.CoversV v s vn) = q := ⟨_, rfl⟩
  rw [hq]
  have HC : Hid (∀ V, Below U.heap.size U V → Calls Try.prog 32 #[.slice A n c, .agg #[.int .i64 s, .int .i64 vn]] V (fun e w' => e = .returned (.bool q) ∧ Below V.heap.size V w')) := Lib.hid fun V hV => by
    rw [← hq]
    exact Vect.covers_any A c n v hn s vn V ((hr.below (bU.trans (hV.mono bU.size))).more (Nat.le_trans bU.size hV.size)) hbig
  have HSF : Hid (∀ V, Below U.heap.size U V → Below U.heap.size U V ∧ V.cell? ⟨bx, 0, none⟩ = some (.slice A n c) ∧ V.cell? ⟨w.heap.size, 0, none⟩ = some (.int .i64 fr) ∧ V.cell? ⟨w.heap.size, 1, none⟩ = some (.int .i64 sq) ∧ V.cell? ⟨w.heap.size, 2, none⟩ = some (.string key) ∧ V.cell? ⟨w.heap.size, 3, none⟩ = some (.slice Av 1 cv) ∧ V.cell? ⟨w.heap.size, 4, none⟩ = some (.slice Ar kr cr)) := Lib.hid fun V hV => by
    have g1 := BU.same (hV.block _ BU.lt)
    exact ⟨hV, (hV.cell (p := ⟨bx, 0, none⟩) (Nat.lt_of_lt_of_le hbl bU.size)).trans x0, (g1.cell 0).trans rfl, (g1.cell 1).trans rfl, (g1.cell 2).trans rfl, (g1.cell 3).trans rfl, (g1.cell 4).trans rfl⟩
  have HB := Lib.hid bU
  clear hv hr hn hm1 bU BU hs hvn hq
  go_enter Try.func42, Try.ntmps42
  go_wp2_with fail
  refine wp_region_held_drew (S := (fun V => Below U.heap.size U V ∧ V.cell? ⟨bx, 0, none⟩ = some (.slice A n c) ∧ V.cell? ⟨w.heap.size, 0, none⟩ = some (.int .i64 fr) ∧ V.cell? ⟨w.heap.size, 1, none⟩ = some (.int .i64 sq) ∧ V.cell? ⟨w.heap.size, 2, none⟩ = some (.string key) ∧ V.cell? ⟨w.heap.size, 3, none⟩ = some (.slice Av 1 cv) ∧ V.cell? ⟨w.heap.size, 4, none⟩ = some (.slice Ar kr cr))) (by kernel_rfl) (HSF.out _ (Below.refl _ U).drew) (fun hHeld => ?_)
  refine wpAnyH_take (i := 0) (oi := { dst := some 4, op := Op.load 36 (Operand.tmp 1), type := 36, pos := "inbox.go:108", after := #[], guard := none }) (v := ?vk_1) rfl (by kernel_rfl) (by kernel_rfl) (by kernel_rfl) (fun _ _ _ h => h) (Or.inl ⟨by rfl, ?hyk_1⟩) (by assumption) ?restk_1
  case hyk_1 =>
    intro w hSw
    (try dsimp only at hSw)
    go_simp
    (try with_reducible rfl)
  (try simp only [Act.put, List.setIfInBounds_toArray, List.set_cons_zero, List.set_cons_succ])
  refine wpAnyH_take (i := 1) (oi := { dst := some 5, op := Op.load 35 (Operand.tmp 2), type := 35, pos := "inbox.go:108", after := #[], guard := none }) (v := ?vk_2) rfl (by kernel_rfl) (by kernel_rfl) (by kernel_rfl) (fun _ _ _ h => h) (Or.inl ⟨by rfl, ?hyk_2⟩) (by assumption) ?restk_2
  case hyk_2 =>
    intro w hSw
    (try dsimp only at hSw)
    go_simp
    (try with_reducible rfl)
  (try simp only [Act.put, List.setIfInBounds_toArray, List.set_cons_zero, List.set_cons_succ])
  refine wpAnyH_ready (rs := [2]) (by kernel_rfl) (by simp) ?_
  refine AllReadyH.cons (o := { dst := some 6, op := Op.call { callee := Callee.value (Operand.func 33), args := #[Operand.tmp 5], argTypes := #[35] }, type := 56, pos := "inbox.go:108", after := #[{ on := 1, ground := Ground.data }], guard := none }) rfl (fun K hK => ?_) AllReadyH.nil
  go_simp
  (go_at_call 33; refine (HD.out _ hHeld.1).mono ?_; rintro e6 w6 ⟨rfl, b6⟩; have hb6 : Below U.heap.size U w6 := hHeld.1.trans (b6.mono hHeld.1.size))
  go_wp2_with fail
  refine hK.out _ _ (HSF.out _ hb6) (fun hHeld => ?_)
  clear hK K
  (try simp only [Act.put, List.setIfInBounds_toArray, List.set_cons_zero, List.set_cons_succ])
  refine wpAnyH_ready (rs := [3]) (by kernel_rfl) (by simp) ?_
  refine AllReadyH.cons (o := { dst := some 7, op := Op.call { callee := Callee.value (Operand.func 32), args := #[Operand.tmp 4, Operand.tmp 6], argTypes := #[36, 56] }, type := 4, pos := "inbox.go:108", after := #[{ on := 0, ground := Ground.data }, { on := 2, ground := Ground.data }, { on := 2, ground := Ground.chain }], guard := none }) rfl (fun K hK => ?_) AllReadyH.nil
  go_simp
  (go_at_call 32; refine (HC.out _ hHeld.1).mono ?_; rintro e7 w7 ⟨rfl, b7⟩; have hb7 : Below U.heap.size U w7 := hHeld.1.trans (b7.mono hHeld.1.size))
  go_wp2_with fail
  refine hK.out _ _ (HSF.out _ hb7) (fun hHeld => ?_)
  clear hK K
  (try simp only [Act.put, List.setIfInBounds_toArray, List.set_cons_zero, List.set_cons_succ])
  refine wpAnyH_take (i := 4) (oi := { dst := some 3, op := Op.assign (Operand.tmp 7), type := 4, pos := "inbox.go:108", after := #[{ on := 3, ground := Ground.data }, { on := 3, ground := Ground.chain }, { on := 0, ground := Ground.phase }, { on := 1, ground := Ground.phase }, { on := 2, ground := Ground.phase }, { on := 3, ground := Ground.phase }], guard := none }) (v := ?vk_3) rfl (by kernel_rfl) (by kernel_rfl) (by kernel_rfl) (fun _ _ _ h => h) (Or.inl ⟨by rfl, ?hyk_3⟩) (by assumption) ?restk_3
  case hyk_3 =>
    intro w hSw
    (try dsimp only at hSw)
    go_simp
    (try with_reducible rfl)
  (try simp only [Act.put, List.setIfInBounds_toArray, List.set_cons_zero, List.set_cons_succ])
  refine wpAnyH_done (by kernel_rfl) ?_ _
  go_wp2_with fail
  go_ret
  exact ⟨rfl, HB.out.trans (hb7.mono HB.out.size)⟩
end
/-- What Ready answers and leaves. -/
def ReadyPost (T e : TypeId) (F : Nat → Prop) (nb : Nat) (room : Int) (P : List Fr) (v : List Int) (w : World) (r : Ending) (w' : World) : Prop :=
  (∃ F', Hid (IN T e F' w' nb room (dropF 1 (fun x => decide (mayF v x)) P).2 ∧ Stp F w F' w')) ∧
  (((dropF 1 (fun x => decide (mayF v x)) P).1 = [] ∧ r = .returned (.tuple #[.agg #[.int .i64 0, .int .i64 0, .string ⟨#[]⟩, .slice none 0 0, .slice none 0 0], .bool false])) ∨
    ∃ (x : Fr) (a1 : Option Addr) (c1 : Nat) (a2 : Option Addr) (c2 kr : Nat), r = .returned (.tuple #[.agg #[.int .i64 x.1.1, .int .i64 x.1.2, .string x.2.1.1, .slice a1 1 c1, .slice a2 kr c2], .bool true]) ∧ Hid ((dropF 1 (fun x => decide (mayF v x)) P).1 = [x] ∧ x.2.2.length = kr ∧ x ∈ P ∧ mayF v x ∧ SzF x ∧ ∃ L B, Hd w' L B (x, (a1, c1), (a2, c2)) ∧ B ≤ w'.heap.size ∧ ∀ k, L ≤ k → k < B → F k))
/-- What Clean answers and leaves. -/
def CleanPost (T e : TypeId) (F : Nat → Prop) (nb : Nat) (room : Int) (P : List Fr) (v : List Int) (n : Nat) (w : World) (r : Ending) (w' : World) : Prop :=
  ∃ A1 c1, r = .returned (.slice A1 n c1) ∧ Hid ((P.filter fun x => decide (covF v x)).length = n ∧ ∃ F', (IN T e F' w' nb room (P.filter fun x => !decide (covF v x)) ∧ Stp F w F' w') ∧ FsP F' w' A1 (P.filter fun x => decide (covF v x)))
/-- What was taken out is read behind it. -/
theorem drop_data {F : Nat → Prop} {w w' : World} {nb n c : Nat} {room : Int} {A : Option Addr} {l : List FE} (h : IO 81 35 F w nb room A c n l) (hc : Chg (fun k => k = nb) w w') : ∀ x ∈ l, SzF x.1 ∧ ∃ L B, Hd w' L B x ∧ B ≤ w'.heap.size ∧ ∀ k, L ≤ k → k < B → F k := fun x hx => by
  obtain ⟨s, L, B, g1, g2, g3⟩ := h.2.1.2 x hx
  have g4 := g1.heap fun k a b => hc.block k (by omega) (g3 k a b).2.1
  have := hc.size
  exact ⟨s, L, B, g4, by omega, fun k a b => (g3 k a b).1⟩
end Inbox
end Go.Proofs.Ytiempgabamheiaa
