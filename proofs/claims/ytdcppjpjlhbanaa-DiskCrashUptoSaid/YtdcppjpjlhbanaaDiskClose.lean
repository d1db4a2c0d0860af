/-
  disk: the four undos (layer 7).
-/
import Derived.Test.YtdcppjpjlhbanaaDiskNew
import Derived.Test.YtdcppjpjlhbanaaBytesCut
namespace Go.Proofs.Ytdcppjpjlhbanaa
namespace Disk
open Go.RowKit Blk Go.Maps
attribute [local go_sem ↓] Go.wp_at_zero Go.wp_at_succ
/-- A file whose bytes are read where they lie. -/
def ROK (F : Nat → Prop) (own : Nat → Nat) (w : World) (x : Fl) : Prop :=
  x.d.length ≤ x.c ∧ (∀ z ∈ x.d, 0 ≤ z ∧ z ≤ 255) ∧ x.d.length ≤ 1099511627776 ∧
  ((x.A = none ∧ x.d = [] ∧ x.c = 0) ∨ ∃ g cur, x.A = some ⟨g, 0, none⟩ ∧ F g ∧ own g = x.i ∧ w.heap[g]? = some (.cells cur 5 (0, 0)) ∧ x.c ≤ cur.size ∧ cur.toList.take x.d.length = nums .u8 x.d)
theorem ROK.keep {F : Nat → Prop} {own : Nat → Nat} {w w' : World} {x : Fl} (h : ROK F own w x) (hk : ∀ j, F j → w'.heap[j]? = w.heap[j]?) : ROK F own w' x := by
  obtain ⟨h1, h2, h3, h4⟩ := h
  refine ⟨h1, h2, h3, h4.imp id fun ⟨g, cur, q1, q2, q3, q4, q5⟩ => ⟨g, cur, q1, q2, q3, (hk g q2).trans q4, q5⟩⟩
theorem ROK.take {F : Nat → Prop} {own : Nat → Nat} {w : World} {x : Fl} (h : ROK F own w x) (n : Nat) : ROK F own w (tkE n x) := by
  obtain ⟨h1, h2, h3, h4⟩ := h
  have hl : (tkE n x).d.length ≤ x.d.length := by unfold tkE; simp only [List.length_take]; omega
  have hc : (tkE n x).c = x.c := rfl
  refine ⟨by omega, fun z hz => h2 z (List.mem_of_mem_take hz), by omega, ?_⟩
  rcases h4 with ⟨e1, e2, e3⟩ | ⟨g, cur, q1, q2, q3, q4, q5, q6⟩
  · exact .inl ⟨e1, by unfold tkE; simp [e2], e3⟩
  · refine .inr ⟨g, cur, q1, q2, q3, q4, q5, ?_⟩
    have e1 : (tkE n x).d = x.d.take n := rfl
    rw [e1, List.length_take, ← List.take_take, q6, nums, ← List.map_take]
    rfl
/-- A variable of a closure: its block, with one value. -/
def Box (F : Nat → Prop) (w : World) (b : Nat) (t : TypeId) (v : Value) : Prop := Bn b t [v] w ∧ F b
/-- A closure's variables, as they are found. -/
def Un.ok (F : Nat → Prop) (own : Nat → Nat) (w : World) (db : Nat) : Un → Prop
  | .app b1 b2 b3 b4 b5 s wd k there A c => Box F w b1 3 (.int .i64 k) ∧ Box F w b2 24 (hd db) ∧ Box F w b3 9 (.string s) ∧ Box F w b4 29 (.slice A wd c) ∧ Box F w b5 4 (.bool there) ∧ s.size ≤ 16 ∧ wd ≤ 1099511627776 ∧ k ≤ 1099511627776
  | .put _ b1 b2 b3 s y => Box F w b1 24 (hd db) ∧ Box F w b2 9 (.string s) ∧ Box F w b3 29 y.v ∧ s.size ≤ 16 ∧ ROK F own w y
  | .ren b1 b2 b3 b4 b5 b6 to from_ other y2 y => Box F w b1 24 (hd db) ∧ Box F w b2 9 (.string to) ∧ Box F w b3 4 (.bool other) ∧ Box F w b4 29 y2.v ∧ Box F w b5 9 (.string from_) ∧ Box F w b6 29 y.v ∧ to.size ≤ 16 ∧ from_.size ≤ 16 ∧ ROK F own w y2 ∧ ROK F own w y
theorem ok_of {s : Nm} (h : s.size ≤ 16) : okN s := by unfold okN maxLen; omega
section
variable {F : Nat → Prop} {own : Nat → Nat} {w w' : World} {db mb n c : Nat} {room : Int} {A : Option Addr} {es : Es}
theorem Box.keep {b : Nat} {t : TypeId} {v : Value} (h : Box F w b t v) (hk : ∀ j, F j → w'.heap[j]? = w.heap[j]?) : Box F w' b t v := ⟨h.1.same (hk b h.2), h.2⟩
theorem Un.ok_keep {e : Un} (h : e.ok F own w db) (hk : ∀ j, F j → w'.heap[j]? = w.heap[j]?) : e.ok F own w' db := by
  rcases e with ⟨b1, b2, b3, b4, b5, s, wd, k, there, A, c⟩ | ⟨cut, b1, b2, b3, s, y⟩ | ⟨b1, b2, b3, b4, b5, b6, to, from_, other, y2, y⟩
  · obtain ⟨h1, h2, h3, h4, h5, h6⟩ := h
    exact ⟨h1.keep hk, h2.keep hk, h3.keep hk, h4.keep hk, h5.keep hk, h6⟩
  · obtain ⟨h1, h2, h3, h4, h5⟩ := h
    exact ⟨h1.keep hk, h2.keep hk, h3.keep hk, h4, h5.keep hk⟩
  · obtain ⟨h1, h2, h3, h4, h5, h6, h7, h8, h9, h10⟩ := h
    exact ⟨h1.keep hk, h2.keep hk, h3.keep hk, h4.keep hk, h5.keep hk, h6.keep hk, h7, h8, h9.keep hk, h10.keep hk⟩
/-- A one-cell block that is no disk's stays while the disk's own are turned. -/
theorem bn_two {b : Nat} {t : TypeId} {v : Value} (h : Cor w db mb room A n c es) (hb : Bn b t [v] w) (ht : t ≠ 60) (hc : Chg (Two db mb) w w') : Bn b t [v] w' := by
  refine hb.same (hc.block b hb.lt ?_)
  rintro (rfl | rfl)
  · exact ht (hb.type h.1)
  · exact h.2.ne hb rfl
set_option maxRecDepth 100000 in
theorem cutU (h : Cor w db mb room A n c es) {b1 b2 b3 : Nat} {s : Nm} {y : Fl} (h1 : Bn b1 24 [hd db] w) (h2 : Bn b2 9 [.string s] w) (h3 : Bn b3 29 [y.v] w) (hs : s.size ≤ 16) (hu : used (fsE es) ≤ 1099511627776) (hl : y.d.length ≤ 1099511627776) (hn : es.length < 140737488355328) (t : Int) :
    Calls Try.prog 46 #[.int .i64 t, pt b1, pt b2, pt b3] w (fun e w' => e = .returned (.tuple #[]) ∧ Hid (Cor w' db mb room A n c (wit es s y) ∧ Chg (Two db mb) w w')) := by
  obtain ⟨m, hm⟩ : ∃ m, y.d.length = m := ⟨_, rfl⟩
  have H1 := Lib.hid (set_any h s (ok_of hs) y m hm (by omega) (by omega) hn)
  have c1 := (h1.cell 0).trans rfl
  have c2 := (h2.cell 0).trans rfl
  have c3 : w.cell? ⟨b3, 0, none⟩ = some (.slice y.A m y.c) := by rw [← hm]; exact (h3.cell 0).trans rfl
  clear h h1 h2 h3 hu hl hn hm
  go_enter Try.func46, Try.ntmps46
  go_wp2_with fail
  refine H1.out.mono ?_
  rintro e w2 ⟨rfl, hh⟩
  go_wp2_with fail
  exact bodyPost_end (v := .tuple #[]) (results_none rfl _ _ _) rfl ⟨rfl, hh⟩
set_option maxRecDepth 100000 in
theorem remU (h : Cor w db mb room A n c es) {b1 b2 b3 : Nat} {s : Nm} {y : Fl} (h1 : Bn b1 24 [hd db] w) (h2 : Bn b2 9 [.string s] w) (h3 : Bn b3 29 [y.v] w) (hs : s.size ≤ 16) (hu : used (fsE es) ≤ 1099511627776) (hl : y.d.length ≤ 1099511627776) (hn : es.length < 140737488355328) (t : Int) :
    Calls Try.prog 43 #[.int .i64 t, pt b1, pt b2, pt b3] w (fun e w' => e = .returned (.tuple #[]) ∧ Hid (Cor w' db mb room A n c (wit es s y) ∧ Chg (Two db mb) w w')) := by
  obtain ⟨m, hm⟩ : ∃ m, y.d.length = m := ⟨_, rfl⟩
  have H1 := Lib.hid (set_any h s (ok_of hs) y m hm (by omega) (by omega) hn)
  have c1 := (h1.cell 0).trans rfl
  have c2 := (h2.cell 0).trans rfl
  have c3 : w.cell? ⟨b3, 0, none⟩ = some (.slice y.A m y.c) := by rw [← hm]; exact (h3.cell 0).trans rfl
  clear h h1 h2 h3 hu hl hn hm
  go_enter Try.func43, Try.ntmps43
  go_wp2_with fail
  refine H1.out.mono ?_
  rintro e w2 ⟨rfl, hh⟩
  go_wp2_with fail
  exact bodyPost_end (v := .tuple #[]) (results_none rfl _ _ _) rfl ⟨rfl, hh⟩
theorem Chg.two {u v x : World} (h : Chg (Two db mb) u v) (h' : Chg (Two db mb) v x) : Chg (Two db mb) u x := h.trans h' fun _ hj => .inl hj
set_option maxRecDepth 100000 in
set_option maxHeartbeats 1000000 in
theorem renU (h : Cor w db mb room A n c es) {b1 b2 b3 b4 b5 b6 : Nat} {to from_ : Nm} {other : Bool} {y2 y : Fl} (h1 : Bn b1 24 [hd db] w) (h2 : Bn b2 9 [.string to] w) (h3 : Bn b3 4 [.bool other] w) (h4 : Bn b4 29 [y2.v] w) (h5 : Bn b5 9 [.string from_] w) (h6 : Bn b6 29 [y.v] w)
    (hto : to.size ≤ 16) (hfr : from_.size ≤ 16) (hu : used (fsE es) ≤ 2000000000) (hl2 : y2.d.length ≤ 1099511627776) (hl : y.d.length ≤ 1099511627776) (hn : es.length < 140737488355320) (t : Int) :
    Calls Try.prog 41 #[.int .i64 t, pt b1, pt b2, pt b3, pt b4, pt b5, pt b6] w (fun e w' => e = .returned (.tuple #[]) ∧ Hid (Cor w' db mb room A n c (wit (if other then wit (wout es to) to y2 else wout es to) from_ y) ∧ Chg (Two db mb) w w')) := by
  obtain ⟨m, hm⟩ : ∃ m, y.d.length = m := ⟨_, rfl⟩
  obtain ⟨m2, hm2⟩ : ∃ m, y2.d.length = m := ⟨_, rfl⟩
  have hsr := h.srt
  have hw1 := used_wout (hsr.map Fl.d) to
  have hl1 : (wout es to).length ≤ es.length := List.length_filter_le _ _
  have hfw : fsE (wout es to) = wout (fsE es) to := map_wout _ _ _
  have hu1 : used (fsE (wout es to)) ≤ 2000000000 := by rw [hfw]; have e : used (mapV Fl.d es) ≤ 2000000000 := hu; show used (wout (mapV Fl.d es) to) ≤ _; omega
  have H1 := Lib.hid (drop_any h to (ok_of hto) (by omega))
  have c1 := (h1.cell 0).trans rfl
  have c2 := (h2.cell 0).trans rfl
  have HX := Lib.hid (And.intro h (And.intro h1 (And.intro h2 (And.intro h3 (And.intro h4 (And.intro h5 (And.intro h6 (And.intro hm (And.intro hm2 hsr)))))))))
  clear h h1 h2 h3 h4 h5 h6 hm hm2 hsr hw1 hfw hu
  go_enter Try.func41, Try.ntmps41
  go_wp2_with fail
  refine H1.out.mono ?_
  rintro e w2 ⟨rfl, hh⟩
  have hc2 := hh.out.2
  have k1 := bn_two HX.out.1 HX.out.2.1 (by decide) hc2
  have k2 := bn_two HX.out.1 HX.out.2.2.1 (by decide) hc2
  have k3 := bn_two HX.out.1 HX.out.2.2.2.1 (by decide) hc2
  have k4 := bn_two HX.out.1 HX.out.2.2.2.2.1 (by decide) hc2
  have k5 := bn_two HX.out.1 HX.out.2.2.2.2.2.1 (by decide) hc2
  have k6 := bn_two HX.out.1 HX.out.2.2.2.2.2.2.1 (by decide) hc2
  have c1 := (k1.cell 0).trans rfl
  have c2 := (k2.cell 0).trans rfl
  have c3 := (k3.cell 0).trans rfl
  have c4 : w2.cell? ⟨b4, 0, none⟩ = some (.slice y2.A m2 y2.c) := by rw [← HX.out.2.2.2.2.2.2.2.2.1]; exact (k4.cell 0).trans rfl
  have c5 := (k5.cell 0).trans rfl
  have c6 : w2.cell? ⟨b6, 0, none⟩ = some (.slice y.A m y.c) := by rw [← HX.out.2.2.2.2.2.2.2.1]; exact (k6.cell 0).trans rfl
  cases other with
  | false =>
    have H2 := Lib.hid (set_any hh.out.1 from_ (ok_of hfr) y m HX.out.2.2.2.2.2.2.2.1 (by omega) (by have := HX.out.2.2.2.2.2.2.2.1; omega) (by omega))
    have HC := Lib.hid hc2
    clear hc2 k1 k2 k3 k4 k5 k6 hh H1
    go_wp2_with fail
    refine H2.out.mono ?_
    rintro e w3 ⟨rfl, h3⟩
    go_wp2_with fail
    exact bodyPost_end (v := .tuple #[]) (results_none rfl _ _ _) rfl ⟨rfl, Lib.hid ⟨h3.out.1, Chg.two HC.out h3.out.2⟩⟩
  | true =>
    have hw2 := used_wit ((HX.out.2.2.2.2.2.2.2.2.2.wout to).map Fl.d) to y2.d
    have hu2 : used (fsE (wit (wout es to) to y2)) ≤ 4398046511104 := by
      have e1 : fsE (wit (wout es to) to y2) = wit (fsE (wout es to)) to y2.d := map_wit _ _ _ _
      rw [e1]
      have e3 := HX.out.2.2.2.2.2.2.2.2.1
      have e4 : used (mapV Fl.d (wout es to)) ≤ 2000000000 := hu1
      show used (wit (mapV Fl.d (wout es to)) to y2.d) ≤ _
      omega
    have hl3 : (wit (wout es to) to y2).length ≤ es.length + 1 := by
      have h1 : (wout (wout es to) to).length ≤ (wout es to).length := List.length_filter_le _ _
      rw [wit, len_ins]
      omega
    have H2 := Lib.hid (set_any hh.out.1 to (ok_of hto) y2 m2 HX.out.2.2.2.2.2.2.2.2.1 (by omega) (by have := HX.out.2.2.2.2.2.2.2.2.1; omega) (by omega))
    have HC := Lib.hid (And.intro hc2 (And.intro hh.out.1 (And.intro k1 (And.intro k5 k6))))
    clear hc2 k1 k2 k3 k4 k5 k6 hh H1 hw2
    go_wp2_with fail
    refine H2.out.mono ?_
    rintro e w3 ⟨rfl, h3⟩
    have hc3 := h3.out.2
    have k1 := bn_two HC.out.2.1 HC.out.2.2.1 (by decide) hc3
    have k5 := bn_two HC.out.2.1 HC.out.2.2.2.1 (by decide) hc3
    have k6 := bn_two HC.out.2.1 HC.out.2.2.2.2 (by decide) hc3
    have q1 := (k1.cell 0).trans rfl
    have q5 := (k5.cell 0).trans rfl
    have q6 : w3.cell? ⟨b6, 0, none⟩ = some (.slice y.A m y.c) := by rw [← HX.out.2.2.2.2.2.2.2.1]; exact (k6.cell 0).trans rfl
    have H3 := Lib.hid (set_any h3.out.1 from_ (ok_of hfr) y m HX.out.2.2.2.2.2.2.2.1 (by omega) (by have := HX.out.2.2.2.2.2.2.2.1; omega) (by omega))
    have HC3 := Lib.hid (Chg.two HC.out.1 hc3)
    clear hc3 k1 k5 k6 h3 H2
    go_wp2_with fail
    refine H3.out.mono ?_
    rintro e w4 ⟨rfl, h4⟩
    go_wp2_with fail
    exact bodyPost_end (v := .tuple #[]) (results_none rfl _ _ _) rfl ⟨rfl, Lib.hid ⟨h4.out.1, Chg.two HC3.out h4.out.2⟩⟩
theorem cor_drew (h : Cor w db mb room A n c es) : Cor w.drew db mb room A n c es := h
theorem chg_drew {G : Nat → Prop} {u v : World} (h : Chg G u.drew v) : Chg G u v := ⟨h.os, h.tape, h.output, h.size, h.block⟩
set_option maxRecDepth 100000 in
set_option maxHeartbeats 1000000 in
theorem appU (h : Cor w db mb room A n c es) {b1 b2 b3 b4 b5 : Nat} {s : Nm} {wd k : Nat} {there : Bool} {A4 : Option Addr} {c4 : Nat} (h1 : Bn b1 3 [.int .i64 k] w) (h2 : Bn b2 24 [hd db] w) (h3 : Bn b3 9 [.string s] w) (h4 : Bn b4 29 [.slice A4 wd c4] w) (h5 : Bn b5 4 [.bool there] w)
    (hs : s.size ≤ 16) (hwd : wd ≤ 1099511627776) (hk : k ≤ 1099511627776) {x : Fl} (hx : find es s = some x) (hlen : x.d.length = wd + k) (hxc : x.d.length ≤ x.c) (hxl : x.d.length ≤ 1099511627776) (hu : used (fsE es) ≤ 2000000000) (hn : es.length < 140737488355320) (t : Int) :
    Calls Try.prog 39 #[.int .i64 t, pt b1, pt b2, pt b3, pt b4, pt b5] w (fun e w' => e = .returned (.tuple #[]) ∧ Hid (Cor w' db mb room A n c (if there = true ∨ 0 < tor t k then wit (wout es s) s (tkE (wd + tor t k) x) else wout es s) ∧ Chg (Two db mb) w w')) := by
  obtain ⟨T, hT⟩ : ∃ T : Nat, tor t k = T := ⟨_, rfl⟩
  have hT2 : min (max t 0) (k : Int) = (T : Int) := by rw [← hT]; exact (tor_eq t k).symm
  have hTk : T ≤ k := by rw [← hT]; exact tor_le t k
  rw [hT]
  obtain ⟨L, hL⟩ : ∃ L, x.d.length = L := ⟨_, rfl⟩
  obtain ⟨m, hm⟩ : ∃ m, wd + T = m := ⟨_, rfl⟩
  rw [hm]
  obtain ⟨R, hR⟩ : ∃ R, (if there = true ∨ 0 < T then wit (wout es s) s (tkE m x) else wout es s) = R := ⟨_, rfl⟩
  rw [hR]
  have HR := Lib.hid hR
  clear hR
  have hlook : (Instr.lookup 57 (.map (some mb)) (.string s) false).run Try.prog w.drew = .ok (.slice x.A L x.c) w.drew := by
    have q := MI.look (w := w.drew) h.2 s (ok_of hs)
    rw [find_map, hx] at q
    rw [← hL]
    exact q
  have hcut := Cut.cut_h x.A L x.c m ((m : Nat) : Int) rfl (by omega) (by omega)
  have e1 : IntKind.i64.wrap ((wd : Int) + (T : Int)) = ((m : Nat) : Int) := by rw [← hm]; exact Go.IntWalk.i64_in _ (by omega)
  have hmk : (tkE m x).d.length = m := by unfold tkE; simp only [List.length_take]; omega
  have hsr := h.srt
  have hw1 := used_wout (hsr.map Fl.d) s
  have hu1 : used (fsE (wout es s)) ≤ 2000000000 := by
    have e2 : fsE (wout es s) = wout (fsE es) s := map_wout _ _ _
    rw [e2]
    have e3 : used (mapV Fl.d es) ≤ 2000000000 := hu
    show used (wout (mapV Fl.d es) s) ≤ _
    omega
  have hl1 : (wout es s).length ≤ es.length := List.length_filter_le _ _
  have H1 := Lib.hid (drop_any (cor_drew h) s (ok_of hs) (by omega))
  have c0 := (h.1.cell 2).trans rfl
  have c1 := (h1.cell 0).trans rfl
  have c2 := (h2.cell 0).trans rfl
  have c3 := (h3.cell 0).trans rfl
  have c4' := (h4.cell 0).trans rfl
  have HX := Lib.hid (And.intro h (And.intro h2 (And.intro h3 (And.intro h5 (And.intro hmk (And.intro hu1 hl1))))))
  have HB : Hid (m ≤ 1099511627776) := Lib.hid (by omega)
  clear h h1 h2 h3 h4 h5 hx hlen hxc hxl hu hL hsr hw1 hu1 hl1 hmk hT hwd hk hTk hm
  go_enter Try.func39, Try.ntmps39
  go_wp2_with fail
  go_region
  go_wp2_with fail
  refine H1.out.mono ?_
  rintro e w2 ⟨rfl, hh⟩
  have hc2 := chg_drew hh.out.2
  have k2 := bn_two HX.out.1 HX.out.2.1 (by decide) hc2
  have k3 := bn_two HX.out.1 HX.out.2.2.1 (by decide) hc2
  have k5 := bn_two HX.out.1 HX.out.2.2.2.1 (by decide) hc2
  have q2 := (k2.cell 0).trans rfl
  have q3 := (k3.cell 0).trans rfl
  have q5 := (k5.cell 0).trans rfl
  have H2 := Lib.hid (set_any hh.out.1 s (ok_of hs) (tkE m x) m HX.out.2.2.2.2.1 (by have := HX.out.2.2.2.2.2.1; omega) (by have := HB.out; omega) (by have := HX.out.2.2.2.2.2.2; omega))
  have HC := Lib.hid (And.intro hc2 hh.out.1)
  clear hc2 k2 k3 k5 hh H1 hcut
  have hxA : (tkE m x).A = x.A := rfl
  have hxc2 : (tkE m x).c = x.c := rfl
  rw [hxA, hxc2] at H2
  clear hxA hxc2
  cases there with
  | true =>
    go_wp2_with fail
    refine H2.out.mono ?_
    rintro e w3 ⟨rfl, h3⟩
    go_wp2_with fail
    exact bodyPost_end (v := .tuple #[]) (results_none rfl _ _ _) rfl ⟨rfl, Lib.hid ⟨by rw [← HR.out, if_pos (.inl (by first | trivial | rfl))]; exact h3.out.1, Chg.two HC.out.1 h3.out.2⟩⟩
  | false =>
    by_cases h0 : 0 < T
    · have d0 : decide ((0 : Int) < (T : Int)) = true := decide_eq_true (by omega)
      have HR2 : Hid (R = wit (wout es s) s (tkE m x)) := Lib.hid (by rw [← HR.out, if_pos (.inr h0)])
      clear HR
      go_wp2_with fail
      refine H2.out.mono ?_
      rintro e w3 ⟨rfl, h3⟩
      go_wp2_with fail
      exact bodyPost_end (v := .tuple #[]) (results_none rfl _ _ _) rfl ⟨rfl, Lib.hid ⟨by rw [HR2.out]; exact h3.out.1, Chg.two HC.out.1 h3.out.2⟩⟩
    · have d0 : decide ((0 : Int) < (T : Int)) = false := decide_eq_false (by omega)
      have HR2 : Hid (R = wout es s) := Lib.hid (by rw [← HR.out, if_neg (by rintro (h | h); cases h; exact h0 h)])
      clear HR
      go_wp2_with fail
      exact bodyPost_end (v := .tuple #[]) (results_none rfl _ _ _) rfl ⟨rfl, Lib.hid ⟨by rw [HR2.out]; exact HC.out.2, HC.out.1⟩⟩
end
end Disk
end Go.Proofs.Ytdcppjpjlhbanaa
