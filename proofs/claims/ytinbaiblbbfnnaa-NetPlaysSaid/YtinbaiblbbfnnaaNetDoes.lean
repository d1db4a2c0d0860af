/-
  One call of a script, of the program's network and of the document's (layer 8).
-/
import Derived.Test.YtinbaiblbbfnnaaNetBoth
import Derived.Test.YtinbaiblbbfnnaaNetOps
import Derived.Deep.RegionHeld3
import Derived.Deep.DrawnRows
namespace Go.Proofs.Ytinbaiblbbfnnaa
namespace Net
open Go.RowKit Blk Go.Maps
attribute [local go_sem ↓] Go.wp_at_zero Go.wp_at_succ
/-- What one call of a script leaves. -/
def DoesP (X : Nat → Prop) (w : World) (nb mb m : Nat) (cs : List Ct) (e : Ending) (w' : World) : Prop :=
  e = .returned (.bool true) ∧ ∃ (P : List Pk) (s t u : Int) (cs' : List Ct) (m' : Nat), Hid (Pr X w w' nb mb P s t u (cutC cs') m' P s t u cs' ∧ NoSelf cs' ∧ cs'.length ≤ cs.length + 1 ∧ m' ≤ m + 2)
/-- How a call of a script begins. -/
def Sta (X : Nat → Prop) (w V : World) (nb mb : Nat) (P : List Pk) (s t u : Int) (m : Nat) (cs : List Ct) (a1 a2 b1 b2 : Int) (zs : List Int) (kz : Nat) (A : Option Addr) (x : Int) : Prop :=
  Pr X w V nb mb P s t u (cutC cs) m P s t u cs ∧ NoSelf cs ∧ cs.length ≤ 1900000000000 ∧ m ≤ 10000000000000 ∧ Ns .u8 w w.heap.size A zs ∧ zs.length = kz ∧ OkP ((a1, a2), (b1, b2), zs) ∧ 0 ≤ x ∧ x ≤ 255
section
variable {X : Nat → Prop} {w V : World} {nb mb m : Nat} {P : List Pk} {s t u : Int} {cs : List Ct} {a1 a2 b1 b2 : Int} {zs : List Int} {kz : Nat} {A : Option Addr} {c : Nat} {i at_ x kd : Int}
theorem told_same {U : World} {a1 a2 b1 b2 : Int} {zs : List Int} {k : Nat} {A : Option Addr} {ok : Bool} {a1' a2' b1' b2' : Int} {zs' : List Int} {k' : Nat} {A' : Option Addr} {ok' : Bool} {r : Pk × Bool} {U' : World} (h : Told U a1 a2 b1 b2 zs k A r ok) (h' : Told U' a1' a2' b1' b2' zs' k' A' r ok') :
    a1' = a1 ∧ a2' = a2 ∧ b1' = b1 ∧ b2' = b2 ∧ zs' = zs ∧ k' = k ∧ ok' = ok := by
  obtain ⟨h1, h2, _⟩ := h
  obtain ⟨h3, h4, _⟩ := h'
  have e := h3.trans h1.symm
  simp only [Prod.mk.injEq] at e
  obtain ⟨⟨⟨rfl, rfl⟩, ⟨rfl, rfl⟩, rfl⟩, rfl⟩ := e
  exact ⟨rfl, rfl, rfl, rfl, rfl, h4.symm.trans h2, rfl⟩
set_option maxRecDepth 100000 in
set_option maxHeartbeats 4000000 in
theorem does_1 (h : Sta X w V nb mb P s t u m cs a1 a2 b1 b2 zs kz A x) :
    Calls Try.prog 11 #[hd nb, hd mb, .agg #[.int .i64 1, .int .i64 a1, .int .i64 a2, .int .i64 b1, .int .i64 b2, .slice A kz c, .int .i64 i, .int .i64 at_, .int .u8 x]] V (DoesP X w nb mb m cs) := by
  obtain ⟨pb, hpb⟩ : ∃ b, V.heap.size = b := ⟨_, rfl⟩
  obtain ⟨U, hU⟩ : ∃ W, V.alloc (.cells #[.int .i64 1, .int .i64 a1, .int .i64 a2, .int .i64 b1, .int .i64 b2, .slice A kz c, .int .i64 i, .int .i64 at_, .int .u8 x] 38) = W := ⟨_, rfl⟩
  have bU : Below V.heap.size V U := by rw [← hU]; exact (Below.refl _ V).alloc (Nat.le_refl _) _
  have BU : Bn pb 38 [.int .i64 1, .int .i64 a1, .int .i64 a2, .int .i64 b1, .int .i64 b2, .slice A kz c, .int .i64 i, .int .i64 at_, .int .u8 x] U := by rw [← hU, ← hpb]; exact heap_alloc_new V _
  have hPU := h.1.hold bU
  have hpX : X pb ∨ (V.heap.size ≤ pb ∧ pb < U.heap.size) := .inr ⟨by omega, BU.lt⟩
  have HX := Lib.hid (And.intro hPU (And.intro BU (And.intro hpX h.2)))
  have hPD := Pr.below hPU (Below.refl _ U).drew
  obtain ⟨D, hD⟩ : ∃ D, decide (P.length < 4096) = D := ⟨_, rfl⟩
  have H1 := hPD.send a1 a2 b1 b2 zs kz h.2.2.2.2.2.1 A c ((h.2.2.2.2.1.below hPD.old).more hPD.old.size) h.2.2.2.2.2.2.1
  rw [hD] at H1
  have H1 := Lib.hid H1
  have HD := Lib.hid hD
  have k0 := (BU.cell 0).trans rfl
  have k1 := (BU.cell 1).trans rfl
  have k2 := (BU.cell 2).trans rfl
  have k3 := (BU.cell 3).trans rfl
  have k4 := (BU.cell 4).trans rfl
  have k5 := (BU.cell 5).trans rfl
  have g0 : (U.drew.cell? ⟨pb, 1, none⟩ = some (.int .i64 a1) ∧ U.drew.cell? ⟨pb, 2, none⟩ = some (.int .i64 a2) ∧ U.drew.cell? ⟨pb, 3, none⟩ = some (.int .i64 b1) ∧ U.drew.cell? ⟨pb, 4, none⟩ = some (.int .i64 b2) ∧ U.drew.cell? ⟨pb, 5, none⟩ = some (.slice A kz c)) := ⟨(BU.cell 1).trans rfl, (BU.cell 2).trans rfl, (BU.cell 3).trans rfl, (BU.cell 4).trans rfl, (BU.cell 5).trans rfl⟩
  clear h bU BU hPU hpX hPD hD
  go_enter Try.func11, Try.ntmps11
  go_wp2_with fail
  go_region_held3 (fun V => V.cell? ⟨pb, 1, none⟩ = some (.int .i64 a1) ∧ V.cell? ⟨pb, 2, none⟩ = some (.int .i64 a2) ∧ V.cell? ⟨pb, 3, none⟩ = some (.int .i64 b1) ∧ V.cell? ⟨pb, 4, none⟩ = some (.int .i64 b2) ∧ V.cell? ⟨pb, 5, none⟩ = some (.slice A kz c)) (first | exact g0 | exact g1 | exact g2)
    (first
    | (go_at_call 18; refine H1.out.mono ?_; rintro e1 w1 ⟨rfl, h1⟩; have B1 := HX.out.2.1.same (h1.out.2.2 pb HX.out.2.2.1); have g1 := (show w1.cell? ⟨pb, 1, none⟩ = some (.int .i64 a1) ∧ w1.cell? ⟨pb, 2, none⟩ = some (.int .i64 a2) ∧ w1.cell? ⟨pb, 3, none⟩ = some (.int .i64 b1) ∧ w1.cell? ⟨pb, 4, none⟩ = some (.int .i64 b2) ∧ w1.cell? ⟨pb, 5, none⟩ = some (.slice A kz c) from ⟨(B1.cell 1).trans rfl, (B1.cell 2).trans rfl, (B1.cell 3).trans rfl, (B1.cell 4).trans rfl, (B1.cell 5).trans rfl⟩); have H2 := Lib.hid (show Calls _ _ _ _ (fun e w' => e = .returned (.bool D) ∧ _) from HD.out ▸ (h1.out.1.rsend HX.out.1.plen a1 a2 b1 b2 zs kz HX.out.2.2.2.2.2.2.2.1 A c ((HX.out.2.2.2.2.2.2.1.below h1.out.1.old).more h1.out.1.old.size) HX.out.2.2.2.2.2.2.2.2.1)))
    | (go_at_call 24; refine H2.out.mono ?_; rintro e2 w2 ⟨rfl, h2⟩; have B2 := B1.same (h2.out.2.2 pb HX.out.2.2.1); have g2 := (show w2.cell? ⟨pb, 1, none⟩ = some (.int .i64 a1) ∧ w2.cell? ⟨pb, 2, none⟩ = some (.int .i64 a2) ∧ w2.cell? ⟨pb, 3, none⟩ = some (.int .i64 b1) ∧ w2.cell? ⟨pb, 4, none⟩ = some (.int .i64 b2) ∧ w2.cell? ⟨pb, 5, none⟩ = some (.slice A kz c) from ⟨(B2.cell 1).trans rfl, (B2.cell 2).trans rfl, (B2.cell 3).trans rfl, (B2.cell 4).trans rfl, (B2.cell 5).trans rfl⟩)))
  all_goals
    have HE := Lib.hid h2.out.1
    clear h1 h2 H1 H2
    go_wp2_with fail
    go_ret
    exact ⟨by simp, _, _, _, _, _, _, Lib.hid ⟨HE.out.less fun j hj => .inl hj, HX.out.2.2.2.1, by omega, by omega⟩⟩
set_option maxRecDepth 100000 in
set_option maxHeartbeats 4000000 in
theorem does_3 (h : Sta X w V nb mb P s t u m cs a1 a2 b1 b2 zs kz A x) :
    Calls Try.prog 11 #[hd nb, hd mb, .agg #[.int .i64 3, .int .i64 a1, .int .i64 a2, .int .i64 b1, .int .i64 b2, .slice A kz c, .int .i64 i, .int .i64 at_, .int .u8 x]] V (DoesP X w nb mb m cs) := by
  obtain ⟨pb, hpb⟩ : ∃ b, V.heap.size = b := ⟨_, rfl⟩
  obtain ⟨U, hU⟩ : ∃ W, V.alloc (.cells #[.int .i64 3, .int .i64 a1, .int .i64 a2, .int .i64 b1, .int .i64 b2, .slice A kz c, .int .i64 i, .int .i64 at_, .int .u8 x] 38) = W := ⟨_, rfl⟩
  have bU : Below V.heap.size V U := by rw [← hU]; exact (Below.refl _ V).alloc (Nat.le_refl _) _
  have BU : Bn pb 38 [.int .i64 3, .int .i64 a1, .int .i64 a2, .int .i64 b1, .int .i64 b2, .slice A kz c, .int .i64 i, .int .i64 at_, .int .u8 x] U := by rw [← hU, ← hpb]; exact heap_alloc_new V _
  have hPU := h.1.hold bU
  have hpX : X pb ∨ (V.heap.size ≤ pb ∧ pb < U.heap.size) := .inr ⟨by omega, BU.lt⟩
  have HX := Lib.hid (And.intro hPU (And.intro BU (And.intro hpX h.2)))
  have hPD := Pr.below hPU (Below.refl _ U).drew
  obtain ⟨D, hD⟩ : ∃ D, (atP P i).isSome = D := ⟨_, rfl⟩
  have H1 := hPD.lose i
  rw [hD] at H1
  have H1 := Lib.hid H1
  have HD := Lib.hid hD
  have k0 := (BU.cell 0).trans rfl
  have k6 := (BU.cell 6).trans rfl
  have g0 : U.drew.cell? ⟨pb, 6, none⟩ = some (.int .i64 i) := (BU.cell 6).trans rfl
  clear h bU BU hPU hpX hPD hD
  go_enter Try.func11, Try.ntmps11
  go_wp2_with fail
  go_region_held3 (fun V => V.cell? ⟨pb, 6, none⟩ = some (.int .i64 i)) (first | exact g0 | exact g1 | exact g2)
    (first
    | (go_at_call 23; refine H1.out.mono ?_; rintro e1 w1 ⟨rfl, h1⟩; have B1 := HX.out.2.1.same (h1.out.2.2 pb HX.out.2.2.1); have g1 := (show w1.cell? ⟨pb, 6, none⟩ = some (.int .i64 i) from (B1.cell 6).trans rfl); have H2 := Lib.hid (show Calls _ _ _ _ (fun e w' => e = .returned (.bool D) ∧ _) from HD.out ▸ (h1.out.1.rlose HX.out.1.plen i)))
    | (go_at_call 26; refine H2.out.mono ?_; rintro e2 w2 ⟨rfl, h2⟩; have B2 := B1.same (h2.out.2.2 pb HX.out.2.2.1); have g2 := (show w2.cell? ⟨pb, 6, none⟩ = some (.int .i64 i) from (B2.cell 6).trans rfl)))
  all_goals
    have HE := Lib.hid h2.out.1
    clear h1 h2 H1 H2
    go_wp2_with fail
    go_ret
    exact ⟨by simp, _, _, _, _, _, _, Lib.hid ⟨HE.out.less fun j hj => .inl hj, HX.out.2.2.2.1, by omega, by omega⟩⟩
set_option maxRecDepth 100000 in
set_option maxHeartbeats 4000000 in
theorem does_4 (h : Sta X w V nb mb P s t u m cs a1 a2 b1 b2 zs kz A x) :
    Calls Try.prog 11 #[hd nb, hd mb, .agg #[.int .i64 4, .int .i64 a1, .int .i64 a2, .int .i64 b1, .int .i64 b2, .slice A kz c, .int .i64 i, .int .i64 at_, .int .u8 x]] V (DoesP X w nb mb m cs) := by
  obtain ⟨pb, hpb⟩ : ∃ b, V.heap.size = b := ⟨_, rfl⟩
  obtain ⟨U, hU⟩ : ∃ W, V.alloc (.cells #[.int .i64 4, .int .i64 a1, .int .i64 a2, .int .i64 b1, .int .i64 b2, .slice A kz c, .int .i64 i, .int .i64 at_, .int .u8 x] 38) = W := ⟨_, rfl⟩
  have bU : Below V.heap.size V U := by rw [← hU]; exact (Below.refl _ V).alloc (Nat.le_refl _) _
  have BU : Bn pb 38 [.int .i64 4, .int .i64 a1, .int .i64 a2, .int .i64 b1, .int .i64 b2, .slice A kz c, .int .i64 i, .int .i64 at_, .int .u8 x] U := by rw [← hU, ← hpb]; exact heap_alloc_new V _
  have hPU := h.1.hold bU
  have hpX : X pb ∨ (V.heap.size ≤ pb ∧ pb < U.heap.size) := .inr ⟨by omega, BU.lt⟩
  have HX := Lib.hid (And.intro hPU (And.intro BU (And.intro hpX h.2)))
  have hPD := Pr.below hPU (Below.refl _ U).drew
  obtain ⟨D, hD⟩ : ∃ D, copyOk P i = D := ⟨_, rfl⟩
  have H1 := hPD.copy i
  rw [hD] at H1
  have H1 := Lib.hid H1
  have HD := Lib.hid hD
  have k0 := (BU.cell 0).trans rfl
  have k6 := (BU.cell 6).trans rfl
  have g0 : U.drew.cell? ⟨pb, 6, none⟩ = some (.int .i64 i) := (BU.cell 6).trans rfl
  clear h bU BU hPU hpX hPD hD
  go_enter Try.func11, Try.ntmps11
  go_wp2_with fail
  go_region_held3 (fun V => V.cell? ⟨pb, 6, none⟩ = some (.int .i64 i)) (first | exact g0 | exact g1 | exact g2)
    (first
    | (go_at_call 21; refine H1.out.mono ?_; rintro e1 w1 ⟨rfl, h1⟩; have B1 := HX.out.2.1.same (h1.out.2.2 pb HX.out.2.2.1); have g1 := (show w1.cell? ⟨pb, 6, none⟩ = some (.int .i64 i) from (B1.cell 6).trans rfl); have H2 := Lib.hid (show Calls _ _ _ _ (fun e w' => e = .returned (.bool D) ∧ _) from HD.out ▸ (h1.out.1.rcopy i)))
    | (go_at_call 27; refine H2.out.mono ?_; rintro e2 w2 ⟨rfl, h2⟩; have B2 := B1.same (h2.out.2.2 pb HX.out.2.2.1); have g2 := (show w2.cell? ⟨pb, 6, none⟩ = some (.int .i64 i) from (B2.cell 6).trans rfl)))
  all_goals
    have HE := Lib.hid h2.out.1
    clear h1 h2 H1 H2
    go_wp2_with fail
    go_ret
    exact ⟨by simp, _, _, _, _, _, _, Lib.hid ⟨HE.out.less fun j hj => .inl hj, HX.out.2.2.2.1, by omega, by omega⟩⟩
set_option maxRecDepth 100000 in
set_option maxHeartbeats 4000000 in
theorem does_5 (h : Sta X w V nb mb P s t u m cs a1 a2 b1 b2 zs kz A x) :
    Calls Try.prog 11 #[hd nb, hd mb, .agg #[.int .i64 5, .int .i64 a1, .int .i64 a2, .int .i64 b1, .int .i64 b2, .slice A kz c, .int .i64 i, .int .i64 at_, .int .u8 x]] V (DoesP X w nb mb m cs) := by
  obtain ⟨pb, hpb⟩ : ∃ b, V.heap.size = b := ⟨_, rfl⟩
  obtain ⟨U, hU⟩ : ∃ W, V.alloc (.cells #[.int .i64 5, .int .i64 a1, .int .i64 a2, .int .i64 b1, .int .i64 b2, .slice A kz c, .int .i64 i, .int .i64 at_, .int .u8 x] 38) = W := ⟨_, rfl⟩
  have bU : Below V.heap.size V U := by rw [← hU]; exact (Below.refl _ V).alloc (Nat.le_refl _) _
  have BU : Bn pb 38 [.int .i64 5, .int .i64 a1, .int .i64 a2, .int .i64 b1, .int .i64 b2, .slice A kz c, .int .i64 i, .int .i64 at_, .int .u8 x] U := by rw [← hU, ← hpb]; exact heap_alloc_new V _
  have hPU := h.1.hold bU
  have hpX : X pb ∨ (V.heap.size ≤ pb ∧ pb < U.heap.size) := .inr ⟨by omega, BU.lt⟩
  have HX := Lib.hid (And.intro hPU (And.intro BU (And.intro hpX h.2)))
  have hPD := Pr.below hPU (Below.refl _ U).drew
  obtain ⟨D, hD⟩ : ∃ D, flipOk P i at_ = D := ⟨_, rfl⟩
  have H1 := hPD.flip i at_ x h.2.2.2.2.2.2.2
  rw [hD] at H1
  have H1 := Lib.hid H1
  have HD := Lib.hid hD
  have k0 := (BU.cell 0).trans rfl
  have k6 := (BU.cell 6).trans rfl
  have k7 := (BU.cell 7).trans rfl
  have k8 := (BU.cell 8).trans rfl
  have g0 : (U.drew.cell? ⟨pb, 6, none⟩ = some (.int .i64 i) ∧ U.drew.cell? ⟨pb, 7, none⟩ = some (.int .i64 at_) ∧ U.drew.cell? ⟨pb, 8, none⟩ = some (.int .u8 x)) := ⟨(BU.cell 6).trans rfl, (BU.cell 7).trans rfl, (BU.cell 8).trans rfl⟩
  clear h bU BU hPU hpX hPD hD
  go_enter Try.func11, Try.ntmps11
  go_wp2_with fail
  go_region_held3 (fun V => V.cell? ⟨pb, 6, none⟩ = some (.int .i64 i) ∧ V.cell? ⟨pb, 7, none⟩ = some (.int .i64 at_) ∧ V.cell? ⟨pb, 8, none⟩ = some (.int .u8 x)) (first | exact g0 | exact g1 | exact g2)
    (first
    | (go_at_call 22; refine H1.out.mono ?_; rintro e1 w1 ⟨rfl, h1⟩; have B1 := HX.out.2.1.same (h1.out.2.2 pb HX.out.2.2.1); have g1 := (show w1.cell? ⟨pb, 6, none⟩ = some (.int .i64 i) ∧ w1.cell? ⟨pb, 7, none⟩ = some (.int .i64 at_) ∧ w1.cell? ⟨pb, 8, none⟩ = some (.int .u8 x) from ⟨(B1.cell 6).trans rfl, (B1.cell 7).trans rfl, (B1.cell 8).trans rfl⟩); have H2 := Lib.hid (show Calls _ _ _ _ (fun e w' => e = .returned (.bool D) ∧ _) from HD.out ▸ (h1.out.1.rflip i at_ x HX.out.2.2.2.2.2.2.2.2.2)))
    | (go_at_call 28; refine H2.out.mono ?_; rintro e2 w2 ⟨rfl, h2⟩; have B2 := B1.same (h2.out.2.2 pb HX.out.2.2.1); have g2 := (show w2.cell? ⟨pb, 6, none⟩ = some (.int .i64 i) ∧ w2.cell? ⟨pb, 7, none⟩ = some (.int .i64 at_) ∧ w2.cell? ⟨pb, 8, none⟩ = some (.int .u8 x) from ⟨(B2.cell 6).trans rfl, (B2.cell 7).trans rfl, (B2.cell 8).trans rfl⟩)))
  all_goals
    have HE := Lib.hid h2.out.1
    clear h1 h2 H1 H2
    go_wp2_with fail
    go_ret
    exact ⟨by simp, _, _, _, _, _, _, Lib.hid ⟨HE.out.less fun j hj => .inl hj, HX.out.2.2.2.1, by omega, by omega⟩⟩
theorem Kept.ns {k : IntKind} {Y : Nat → Prop} {V V' : World} {A : Option Addr} {zs : List Int} {n c : Nat} (hk : Kept Y V V') (hY : ∀ j, (Value.slice A n c).ownBlock = some j → Y j) (h : Ns k V V.heap.size A zs) : Ns k V' V'.heap.size A zs := fun hp => by
  obtain ⟨b, off, e, hb, hc⟩ := h hp
  subst e
  have e := hk.2 b (hY b rfl)
  refine ⟨b, off, rfl, Nat.lt_of_lt_of_le hb hk.1, fun j hj => ?_⟩
  rw [← hc j hj]
  simp only [World.cell?, e]
set_option maxRecDepth 100000 in
set_option maxHeartbeats 4000000 in
theorem does_2 (h : Sta X w V nb mb P s t u m cs a1 a2 b1 b2 zs kz A x) :
    Calls Try.prog 11 #[hd nb, hd mb, .agg #[.int .i64 2, .int .i64 a1, .int .i64 a2, .int .i64 b1, .int .i64 b2, .slice A kz c, .int .i64 i, .int .i64 at_, .int .u8 x]] V (DoesP X w nb mb m cs) := by
  obtain ⟨pb, hpb⟩ : ∃ b, V.heap.size = b := ⟨_, rfl⟩
  obtain ⟨U, hU⟩ : ∃ W, V.alloc (.cells #[.int .i64 2, .int .i64 a1, .int .i64 a2, .int .i64 b1, .int .i64 b2, .slice A kz c, .int .i64 i, .int .i64 at_, .int .u8 x] 38) = W := ⟨_, rfl⟩
  have bU : Below V.heap.size V U := by rw [← hU]; exact (Below.refl _ V).alloc (Nat.le_refl _) _
  have BU : Bn pb 38 [.int .i64 2, .int .i64 a1, .int .i64 a2, .int .i64 b1, .int .i64 b2, .slice A kz c, .int .i64 i, .int .i64 at_, .int .u8 x] U := by rw [← hU, ← hpb]; exact heap_alloc_new V _
  have hPU := h.1.hold bU
  have hpX : X pb ∨ (V.heap.size ≤ pb ∧ pb < U.heap.size) := .inr ⟨by omega, BU.lt⟩
  have HX := Lib.hid (And.intro hPU (And.intro BU (And.intro hpX h.2)))
  have H1 := Lib.hid (hPU.take i)
  have k0 := (BU.cell 0).trans rfl
  have k6 := (BU.cell 6).trans rfl
  clear h bU BU hPU hpX
  go_enter Try.func11, Try.ntmps11
  go_wp2_with fail
  refine H1.out.mono ?_
  rintro e1 w1 ⟨y1, y2, z1, z2, ys, k1, A1, c1, ok, rfl, h1⟩
  obtain ⟨pb1, hpb1⟩ : ∃ b, w1.heap.size = b := ⟨_, rfl⟩
  obtain ⟨U1, hU1⟩ : ∃ W, w1.alloc (.cells #[.int .i64 y1, .int .i64 y2, .int .i64 z1, .int .i64 z2, .slice A1 k1 c1] 36) = W := ⟨_, rfl⟩
  have bU1 : Below w1.heap.size w1 U1 := by rw [← hU1]; exact (Below.refl _ w1).alloc (Nat.le_refl _) _
  have BU1 : Bn pb1 36 [.int .i64 y1, .int .i64 y2, .int .i64 z1, .int .i64 z2, .slice A1 k1 c1] U1 := by rw [← hU1, ← hpb1]; exact heap_alloc_new w1 _
  have hP1 := h1.out.2.1.hold bU1
  have B1 := (HX.out.2.1.same (h1.out.2.2.2 pb HX.out.2.2.1)).same (bU1.block pb (Nat.lt_of_lt_of_le HX.out.2.1.lt h1.out.2.2.1))
  have hN1 : Ns .u8 U1 U1.heap.size A1 ys := (h1.out.1.2.2.below bU1).more bU1.size
  have H2 := Lib.hid (hP1.rtake HX.out.1.plen (by have := HX.out.2.2.2.2.1; omega) i)
  have m6 := (B1.cell 6).trans rfl
  have H1X := Lib.hid (And.intro BU1 (And.intro B1 (And.intro hN1 h1.out.1)))
  clear h1 bU1 BU1 hP1 B1 hN1 H1
  go_wp2_with fail
  refine H2.out.mono ?_
  rintro e2 w2 ⟨y1', y2', z1', z2', ys', k1', A2, c2, ok', rfl, h2⟩
  obtain ⟨rfl, rfl, rfl, rfl, rfl, rfl, rfl⟩ := told_same H1X.out.2.2.2 h2.out.1
  obtain ⟨pb2, hpb2⟩ : ∃ b, w2.heap.size = b := ⟨_, rfl⟩
  obtain ⟨U2, hU2⟩ : ∃ W, w2.alloc (.cells #[.int .i64 y1', .int .i64 y2', .int .i64 z1', .int .i64 z2', .slice A2 k1' c2] 36) = W := ⟨_, rfl⟩
  have bU2 : Below w2.heap.size w2 U2 := by rw [← hU2]; exact (Below.refl _ w2).alloc (Nat.le_refl _) _
  have BU2 : Bn pb2 36 [.int .i64 y1', .int .i64 y2', .int .i64 z1', .int .i64 z2', .slice A2 k1' c2] U2 := by rw [← hU2, ← hpb2]; exact heap_alloc_new w2 _
  have B2 := (H1X.out.1.same (h2.out.2.2.2 pb1 (.inr ⟨by omega, H1X.out.1.lt⟩))).same (bU2.block pb1 (Nat.lt_of_lt_of_le H1X.out.1.lt h2.out.2.2.1))
  have hN1 : Ns .u8 U2 U2.heap.size A1 ys' := ((Kept.ns (n := k1') (c := c1) h2.out.2.2 (fun j hj => .inl (.inr hj)) H1X.out.2.2.1).below bU2).more bU2.size
  have hN2 : Ns .u8 U2 U2.heap.size A2 ys' := (h2.out.1.2.2.below bU2).more bU2.size
  have H3 := Lib.hid (same_yes U2 y1' y2' z1' z2' ys' k1' h2.out.1.2.1 A1 A2 c1 c2 hN1 hN2)
  have HE := Lib.hid (h2.out.2.1.below bU2)
  have p0 := (B2.cell 0).trans rfl
  have p1 := (B2.cell 1).trans rfl
  have p2 := (B2.cell 2).trans rfl
  have p3 := (B2.cell 3).trans rfl
  have p4 := (B2.cell 4).trans rfl
  have q0 := (BU2.cell 0).trans rfl
  have q1 := (BU2.cell 1).trans rfl
  have q2 := (BU2.cell 2).trans rfl
  have q3 := (BU2.cell 3).trans rfl
  have q4 := (BU2.cell 4).trans rfl
  clear h2 bU2 BU2 B2 hN1 hN2 H2
  cases ok'
  all_goals
    go_wp2_with fail
    refine H3.out.mono ?_
    rintro e3 w3 ⟨rfl, b3⟩
    have HF := Lib.hid (HE.out.below b3)
    clear b3
    go_wp2_with fail
    go_ret
    exact ⟨rfl, _, _, _, _, _, _, Lib.hid ⟨HF.out.less fun j hj => .inl (.inl (.inl hj)), HX.out.2.2.2.1, by omega, by omega⟩⟩
set_option maxRecDepth 100000 in
set_option maxHeartbeats 4000000 in
theorem does_8 (h : Sta X w V nb mb P s t u m cs a1 a2 b1 b2 zs kz A x) :
    Calls Try.prog 11 #[hd nb, hd mb, .agg #[.int .i64 8, .int .i64 a1, .int .i64 a2, .int .i64 b1, .int .i64 b2, .slice A kz c, .int .i64 i, .int .i64 at_, .int .u8 x]] V (DoesP X w nb mb m cs) := by
  obtain ⟨pb, hpb⟩ : ∃ b, V.heap.size = b := ⟨_, rfl⟩
  obtain ⟨U, hU⟩ : ∃ W, V.alloc (.cells #[.int .i64 8, .int .i64 a1, .int .i64 a2, .int .i64 b1, .int .i64 b2, .slice A kz c, .int .i64 i, .int .i64 at_, .int .u8 x] 38) = W := ⟨_, rfl⟩
  have bU : Below V.heap.size V U := by rw [← hU]; exact (Below.refl _ V).alloc (Nat.le_refl _) _
  have BU : Bn pb 38 [.int .i64 8, .int .i64 a1, .int .i64 a2, .int .i64 b1, .int .i64 b2, .slice A kz c, .int .i64 i, .int .i64 at_, .int .u8 x] U := by rw [← hU, ← hpb]; exact heap_alloc_new V _
  have hPU := h.1.hold bU
  have hpX : X pb ∨ (V.heap.size ≤ pb ∧ pb < U.heap.size) := .inr ⟨by omega, BU.lt⟩
  have HX := Lib.hid (And.intro hPU (And.intro BU (And.intro hpX h.2)))
  have H1 := Lib.hid (hPU.look i)
  have k0 := (BU.cell 0).trans rfl
  have k6 := (BU.cell 6).trans rfl
  clear h bU BU hPU hpX
  go_enter Try.func11, Try.ntmps11
  go_wp2_with fail
  refine H1.out.mono ?_
  rintro e1 w1 ⟨y1, y2, z1, z2, ys, k1, A1, c1, ok, rfl, h1⟩
  obtain ⟨pb1, hpb1⟩ : ∃ b, w1.heap.size = b := ⟨_, rfl⟩
  obtain ⟨U1, hU1⟩ : ∃ W, w1.alloc (.cells #[.int .i64 y1, .int .i64 y2, .int .i64 z1, .int .i64 z2, .slice A1 k1 c1] 36) = W := ⟨_, rfl⟩
  have bU1 : Below w1.heap.size w1 U1 := by rw [← hU1]; exact (Below.refl _ w1).alloc (Nat.le_refl _) _
  have BU1 : Bn pb1 36 [.int .i64 y1, .int .i64 y2, .int .i64 z1, .int .i64 z2, .slice A1 k1 c1] U1 := by rw [← hU1, ← hpb1]; exact heap_alloc_new w1 _
  have hP1 := h1.out.2.1.hold bU1
  have B1 := (HX.out.2.1.same (h1.out.2.2.2 pb HX.out.2.2.1)).same (bU1.block pb (Nat.lt_of_lt_of_le HX.out.2.1.lt h1.out.2.2.1))
  have hN1 : Ns .u8 U1 U1.heap.size A1 ys := (h1.out.1.2.2.below bU1).more bU1.size
  have H2 := Lib.hid (hP1.rlook i)
  have m6 := (B1.cell 6).trans rfl
  have H1X := Lib.hid (And.intro BU1 (And.intro B1 (And.intro hN1 h1.out.1)))
  clear h1 bU1 BU1 hP1 B1 hN1 H1
  go_wp2_with fail
  refine H2.out.mono ?_
  rintro e2 w2 ⟨y1', y2', z1', z2', ys', k1', A2, c2, ok', rfl, h2⟩
  obtain ⟨rfl, rfl, rfl, rfl, rfl, rfl, rfl⟩ := told_same H1X.out.2.2.2 h2.out.1
  obtain ⟨pb2, hpb2⟩ : ∃ b, w2.heap.size = b := ⟨_, rfl⟩
  obtain ⟨U2, hU2⟩ : ∃ W, w2.alloc (.cells #[.int .i64 y1', .int .i64 y2', .int .i64 z1', .int .i64 z2', .slice A2 k1' c2] 36) = W := ⟨_, rfl⟩
  have bU2 : Below w2.heap.size w2 U2 := by rw [← hU2]; exact (Below.refl _ w2).alloc (Nat.le_refl _) _
  have BU2 : Bn pb2 36 [.int .i64 y1', .int .i64 y2', .int .i64 z1', .int .i64 z2', .slice A2 k1' c2] U2 := by rw [← hU2, ← hpb2]; exact heap_alloc_new w2 _
  have B2 := (H1X.out.1.same (h2.out.2.2.2 pb1 (.inr ⟨by omega, H1X.out.1.lt⟩))).same (bU2.block pb1 (Nat.lt_of_lt_of_le H1X.out.1.lt h2.out.2.2.1))
  have hN1 : Ns .u8 U2 U2.heap.size A1 ys' := ((Kept.ns (n := k1') (c := c1) h2.out.2.2 (fun j hj => .inl (.inr hj)) H1X.out.2.2.1).below bU2).more bU2.size
  have hN2 : Ns .u8 U2 U2.heap.size A2 ys' := (h2.out.1.2.2.below bU2).more bU2.size
  have H3 := Lib.hid (same_yes U2 y1' y2' z1' z2' ys' k1' h2.out.1.2.1 A1 A2 c1 c2 hN1 hN2)
  have HE := Lib.hid (h2.out.2.1.below bU2)
  have p0 := (B2.cell 0).trans rfl
  have p1 := (B2.cell 1).trans rfl
  have p2 := (B2.cell 2).trans rfl
  have p3 := (B2.cell 3).trans rfl
  have p4 := (B2.cell 4).trans rfl
  have q0 := (BU2.cell 0).trans rfl
  have q1 := (BU2.cell 1).trans rfl
  have q2 := (BU2.cell 2).trans rfl
  have q3 := (BU2.cell 3).trans rfl
  have q4 := (BU2.cell 4).trans rfl
  clear h2 bU2 BU2 B2 hN1 hN2 H2
  cases ok'
  all_goals
    go_wp2_with fail
    refine H3.out.mono ?_
    rintro e3 w3 ⟨rfl, b3⟩
    have HF := Lib.hid (HE.out.below b3)
    clear b3
    go_wp2_with fail
    go_ret
    exact ⟨rfl, _, _, _, _, _, _, Lib.hid ⟨HF.out.less fun j hj => .inl (.inl (.inl hj)), HX.out.2.2.2.1, by omega, by omega⟩⟩
set_option maxRecDepth 100000 in
set_option maxHeartbeats 4000000 in
theorem does_6 (h : Sta X w V nb mb P s t u m cs a1 a2 b1 b2 zs kz A x) :
    Calls Try.prog 11 #[hd nb, hd mb, .agg #[.int .i64 6, .int .i64 a1, .int .i64 a2, .int .i64 b1, .int .i64 b2, .slice A kz c, .int .i64 i, .int .i64 at_, .int .u8 x]] V (DoesP X w nb mb m cs) := by
  obtain ⟨pb, hpb⟩ : ∃ b, V.heap.size = b := ⟨_, rfl⟩
  obtain ⟨U, hU⟩ : ∃ W, V.alloc (.cells #[.int .i64 6, .int .i64 a1, .int .i64 a2, .int .i64 b1, .int .i64 b2, .slice A kz c, .int .i64 i, .int .i64 at_, .int .u8 x] 38) = W := ⟨_, rfl⟩
  have bU : Below V.heap.size V U := by rw [← hU]; exact (Below.refl _ V).alloc (Nat.le_refl _) _
  have BU : Bn pb 38 [.int .i64 6, .int .i64 a1, .int .i64 a2, .int .i64 b1, .int .i64 b2, .slice A kz c, .int .i64 i, .int .i64 at_, .int .u8 x] U := by rw [← hU, ← hpb]; exact heap_alloc_new V _
  have hPU := h.1.hold bU
  have hpX : X pb ∨ (V.heap.size ≤ pb ∧ pb < U.heap.size) := .inr ⟨by omega, BU.lt⟩
  have HX := Lib.hid (And.intro hPU (And.intro BU (And.intro hpX h.2)))
  have H1 := Lib.hid (hPU.part (by have := h.2.2.2.1; omega) a1 a2 b1 b2 h.2.2.2.2.2.2.1.1.1 h.2.2.2.2.2.2.1.1.2 true)
  have k0 := (BU.cell 0).trans rfl
  have k1 := (BU.cell 1).trans rfl
  have k2 := (BU.cell 2).trans rfl
  have k3 := (BU.cell 3).trans rfl
  have k4 := (BU.cell 4).trans rfl
  clear h bU BU hPU hpX
  go_enter Try.func11, Try.ntmps11
  go_wp2_with fail
  refine H1.out.mono ?_
  rintro e1 w1 ⟨rfl, m1, hm1, h1⟩
  have B1 := HX.out.2.1.same (h1.out.2.2 pb HX.out.2.2.1)
  have H2 := Lib.hid (h1.out.1.rpart (by have := HX.out.2.2.2.2.1; omega) a1 a2 b1 b2 HX.out.2.2.2.2.2.2.2.2.1.1.1 HX.out.2.2.2.2.2.2.2.2.1.1.2 true)
  have q1 := (B1.cell 1).trans rfl
  have q2 := (B1.cell 2).trans rfl
  have q3 := (B1.cell 3).trans rfl
  have q4 := (B1.cell 4).trans rfl
  have HM := Lib.hid hm1
  clear h1 B1 H1 hm1
  go_wp2_with fail
  refine H2.out.mono ?_
  rintro e2 w2 ⟨rfl, h2⟩
  have HE := Lib.hid (h2.out.1)
  clear h2 H2
  go_wp2_with fail
  go_ret
  refine ⟨rfl, P, s, t, u, partL cs (a1, a2) (b1, b2) true, m1, Lib.hid ⟨?_, HX.out.2.2.2.1.part _ _ _, part_len _ _ _ _, HM.out⟩⟩
  rw [cut_part HX.out.2.2.2.1]
  exact HE.out.less fun j hj => .inl hj
set_option maxRecDepth 100000 in
set_option maxHeartbeats 4000000 in
theorem does_7 (h : Sta X w V nb mb P s t u m cs a1 a2 b1 b2 zs kz A x) :
    Calls Try.prog 11 #[hd nb, hd mb, .agg #[.int .i64 7, .int .i64 a1, .int .i64 a2, .int .i64 b1, .int .i64 b2, .slice A kz c, .int .i64 i, .int .i64 at_, .int .u8 x]] V (DoesP X w nb mb m cs) := by
  obtain ⟨pb, hpb⟩ : ∃ b, V.heap.size = b := ⟨_, rfl⟩
  obtain ⟨U, hU⟩ : ∃ W, V.alloc (.cells #[.int .i64 7, .int .i64 a1, .int .i64 a2, .int .i64 b1, .int .i64 b2, .slice A kz c, .int .i64 i, .int .i64 at_, .int .u8 x] 38) = W := ⟨_, rfl⟩
  have bU : Below V.heap.size V U := by rw [← hU]; exact (Below.refl _ V).alloc (Nat.le_refl _) _
  have BU : Bn pb 38 [.int .i64 7, .int .i64 a1, .int .i64 a2, .int .i64 b1, .int .i64 b2, .slice A kz c, .int .i64 i, .int .i64 at_, .int .u8 x] U := by rw [← hU, ← hpb]; exact heap_alloc_new V _
  have hPU := h.1.hold bU
  have hpX : X pb ∨ (V.heap.size ≤ pb ∧ pb < U.heap.size) := .inr ⟨by omega, BU.lt⟩
  have HX := Lib.hid (And.intro hPU (And.intro BU (And.intro hpX h.2)))
  have H1 := Lib.hid (hPU.part (by have := h.2.2.2.1; omega) a1 a2 b1 b2 h.2.2.2.2.2.2.1.1.1 h.2.2.2.2.2.2.1.1.2 false)
  have k0 := (BU.cell 0).trans rfl
  have k1 := (BU.cell 1).trans rfl
  have k2 := (BU.cell 2).trans rfl
  have k3 := (BU.cell 3).trans rfl
  have k4 := (BU.cell 4).trans rfl
  clear h bU BU hPU hpX
  go_enter Try.func11, Try.ntmps11
  go_wp2_with fail
  refine H1.out.mono ?_
  rintro e1 w1 ⟨rfl, m1, hm1, h1⟩
  have B1 := HX.out.2.1.same (h1.out.2.2 pb HX.out.2.2.1)
  have H2 := Lib.hid (h1.out.1.rpart (by have := HX.out.2.2.2.2.1; omega) a1 a2 b1 b2 HX.out.2.2.2.2.2.2.2.2.1.1.1 HX.out.2.2.2.2.2.2.2.2.1.1.2 false)
  have q1 := (B1.cell 1).trans rfl
  have q2 := (B1.cell 2).trans rfl
  have q3 := (B1.cell 3).trans rfl
  have q4 := (B1.cell 4).trans rfl
  have HM := Lib.hid hm1
  clear h1 B1 H1 hm1
  go_wp2_with fail
  refine H2.out.mono ?_
  rintro e2 w2 ⟨rfl, h2⟩
  have HE := Lib.hid (h2.out.1)
  clear h2 H2
  go_wp2_with fail
  go_ret
  refine ⟨rfl, P, s, t, u, partL cs (a1, a2) (b1, b2) false, m1, Lib.hid ⟨?_, HX.out.2.2.2.1.part _ _ _, part_len _ _ _ _, HM.out⟩⟩
  rw [cut_part HX.out.2.2.2.1]
  exact HE.out.less fun j hj => .inl hj
set_option maxRecDepth 100000 in
set_option maxHeartbeats 4000000 in
theorem does_no (h : Sta X w V nb mb P s t u m cs a1 a2 b1 b2 zs kz A x) (hk : ∀ j : Int, 1 ≤ j → j ≤ 8 → kd ≠ j) :
    Calls Try.prog 11 #[hd nb, hd mb, .agg #[.int .i64 kd, .int .i64 a1, .int .i64 a2, .int .i64 b1, .int .i64 b2, .slice A kz c, .int .i64 i, .int .i64 at_, .int .u8 x]] V (DoesP X w nb mb m cs) := by
  obtain ⟨pb, hpb⟩ : ∃ b, V.heap.size = b := ⟨_, rfl⟩
  obtain ⟨U, hU⟩ : ∃ W, V.alloc (.cells #[.int .i64 kd, .int .i64 a1, .int .i64 a2, .int .i64 b1, .int .i64 b2, .slice A kz c, .int .i64 i, .int .i64 at_, .int .u8 x] 38) = W := ⟨_, rfl⟩
  have bU : Below V.heap.size V U := by rw [← hU]; exact (Below.refl _ V).alloc (Nat.le_refl _) _
  have BU : Bn pb 38 [.int .i64 kd, .int .i64 a1, .int .i64 a2, .int .i64 b1, .int .i64 b2, .slice A kz c, .int .i64 i, .int .i64 at_, .int .u8 x] U := by rw [← hU, ← hpb]; exact heap_alloc_new V _
  have hPU := h.1.hold bU
  have hpX : X pb ∨ (V.heap.size ≤ pb ∧ pb < U.heap.size) := .inr ⟨by omega, BU.lt⟩
  have HX := Lib.hid (And.intro hPU (And.intro BU (And.intro hpX h.2)))
  have d1 : (kd == (1 : Int)) = false := by rw [beq_eq_false_iff_ne]; exact hk 1 (by omega) (by omega)
  have d2 : (kd == (2 : Int)) = false := by rw [beq_eq_false_iff_ne]; exact hk 2 (by omega) (by omega)
  have d3 : (kd == (3 : Int)) = false := by rw [beq_eq_false_iff_ne]; exact hk 3 (by omega) (by omega)
  have d4 : (kd == (4 : Int)) = false := by rw [beq_eq_false_iff_ne]; exact hk 4 (by omega) (by omega)
  have d5 : (kd == (5 : Int)) = false := by rw [beq_eq_false_iff_ne]; exact hk 5 (by omega) (by omega)
  have d6 : (kd == (6 : Int)) = false := by rw [beq_eq_false_iff_ne]; exact hk 6 (by omega) (by omega)
  have d7 : (kd == (7 : Int)) = false := by rw [beq_eq_false_iff_ne]; exact hk 7 (by omega) (by omega)
  have d8 : (kd == (8 : Int)) = false := by rw [beq_eq_false_iff_ne]; exact hk 8 (by omega) (by omega)
  have k0 := (BU.cell 0).trans rfl
  have HE := Lib.hid hPU
  clear h bU BU hPU hpX hk
  go_enter Try.func11, Try.ntmps11
  go_wp2_with fail
  go_ret
  exact ⟨rfl, _, _, _, _, _, _, Lib.hid ⟨HE.out.less fun j hj => .inl hj, HX.out.2.2.2.1, by omega, by omega⟩⟩
/-- Any call of a script. -/
theorem does_any (h : Sta X w V nb mb P s t u m cs a1 a2 b1 b2 zs kz A x) (kd : Int) :
    Calls Try.prog 11 #[hd nb, hd mb, .agg #[.int .i64 kd, .int .i64 a1, .int .i64 a2, .int .i64 b1, .int .i64 b2, .slice A kz c, .int .i64 i, .int .i64 at_, .int .u8 x]] V (DoesP X w nb mb m cs) := by
  by_cases e1 : kd = 1
  · subst e1
    exact does_1 h
  by_cases e2 : kd = 2
  · subst e2
    exact does_2 h
  by_cases e3 : kd = 3
  · subst e3
    exact does_3 h
  by_cases e4 : kd = 4
  · subst e4
    exact does_4 h
  by_cases e5 : kd = 5
  · subst e5
    exact does_5 h
  by_cases e6 : kd = 6
  · subst e6
    exact does_6 h
  by_cases e7 : kd = 7
  · subst e7
    exact does_7 h
  by_cases e8 : kd = 8
  · subst e8
    exact does_8 h
  refine does_no h fun j h1 h2 hj => ?_
  subst hj
  omega
end
end Net
end Go.Proofs.Ytinbaiblbbfnnaa
