/-
  The program's disk, by what it is (layer 7).
-/
import Derived.Test.YtdcppjpjlhbanaaDiskNo
import Derived.Test.YtdcppjpjlhbanaaDiskState
import Derived.Test.YtdcppjpjlhbanaaDiskCrashed
import Derived.Test.YtdcppjpjlhbanaaDiskRead
import Derived.Test.YtdcppjpjlhbanaaDiskNames
import Derived.Test.YtdcppjpjlhbanaaStp
namespace Go.Proofs.Ytdcppjpjlhbanaa
namespace Disk
open Go.RowKit Blk Go.Maps
/-- The program's disk in memory, over a set F of blocks. -/
def PD (F : Nat → Prop) (w : World) (db N : Nat) (P : Pd) : Prop := ∃ own es r, DK F own N w db P.room es r ∧ fsE es = P.files ∧ Tws P.safe r P.q
section
variable {F F' : Nat → Prop} {own : Nat → Nat} {w w' : World} {db N N' : Nat} {P : Pd} {es : Es} {r : List Un}
theorem DK.mono {room : Int} (h : DK F own N w db room es r) (hN : N ≤ N') (hN' : N' ≤ 10000000000000) : DK F own N' w db room es r := by
  obtain ⟨mb, A, n, c, h1, h2, h3, h4, ⟨h5, h6, h7, h8, _⟩, h9⟩ := h
  exact ⟨mb, A, n, c, h1, h2, h3, h4, ⟨h5.mono hN, h6, h7, by omega, hN'⟩, h9⟩
theorem PD.mono (h : PD F w db N P) (hN : N ≤ N') (hN' : N' ≤ 10000000000000) : PD F w db N' P := by
  obtain ⟨own, es, r, h1, h2⟩ := h
  exact ⟨own, es, r, h1.mono hN hN', h2⟩
theorem PD.lt (h : PD F w db N P) : ∀ j, F j → j < w.heap.size := by
  obtain ⟨own, es, r, h1, _⟩ := h
  exact h1.lt
theorem PD.keep (h : PD F w db N P) (hs : w.heap.size ≤ w'.heap.size) (hk : ∀ j, F j → w'.heap[j]? = w.heap[j]?) : PD F w' db N P := by
  obtain ⟨own, es, r, h1, h2⟩ := h
  exact ⟨own, es, r, h1.keep hs hk, h2⟩
theorem PD.below (h : PD F w db N P) (hb : Below w.heap.size w w') : PD F w' db N P := h.keep hb.size fun j hj => hb.block j (h.lt j hj)
theorem PD.chg {G : Nat → Prop} (h : PD F w db N P) (hb : Chg G w w') (hG : ∀ j, F j → ¬ G j) : PD F w' db N P := h.keep hb.size fun j hj => hb.block j (h.lt j hj) (hG j hj)
theorem PD.dbF (h : PD F w db N P) : F db := by
  obtain ⟨own, es, r, ⟨mb, A, n, c, h1, h2, h3, h4, h5, h6, _⟩, _⟩ := h
  exact h6
/-- What a change's call tells. -/
def Dod (F : Nat → Prop) (w : World) (db N : Nat) (P : Pd) (C : Cp) (e : Ending) (w' : World) : Prop :=
  ∃ cd, e = .returned (.int .i64 cd) ∧ Hid (∃ F', cd = P.code C ∧ PD F' w' db (N + 1) (P.push C) ∧ Stp F w F' w')
theorem dod_no (h : PD F w db N P) (hN : N < 10000000000000) {C : Cp} {cd : Int} (hc : P.code C = cd) (h0 : cd ≠ 0) {w' : World} (hb : Below w.heap.size w w') : Dod F w db N P C (.returned (.int .i64 cd)) w' := by
  refine ⟨cd, rfl, Lib.hid ⟨F, hc.symm, ?_, Stp.of_below hb⟩⟩
  unfold Pd.push
  rw [if_neg (by rw [hc]; exact h0)]
  exact (h.below hb).mono (by omega) (by omega)
theorem dod_yes {C : Cp} (h0 : P.code C = 0) (_hf : fsE es = P.files) (ht : Tws P.safe r P.q) {es' : Es} {e : Un} (hd : DK F' own (N + 1) w' db P.room es' (e :: r)) (hs : Stp F w F' w') (hes : fsE es' = didP C P.files) (hu : ∀ t, undoF e t (fsE es') = partP C t P.files) : Dod F w db N P C (.returned (.int .i64 0)) w' := by
  refine ⟨0, rfl, Lib.hid ⟨F', h0.symm, ?_, hs⟩⟩
  unfold Pd.push
  rw [if_pos h0]
  refine ⟨own, es', e :: r, hd, hes, fun t => ?_, ht⟩
  have h1 := hu t
  rw [hes] at h1
  exact h1
theorem partP_other {C : Cp} (h : C.k ≠ 1) (t : Int) (l : Fs) : partP C t l = l := by
  unfold partP
  rw [if_neg fun q => h q.1]
theorem pd_append (h : PD F w db N P) (hok : 0 ≤ P.room) (hN : N < 10000000000000) (s : Nm) (b : List Int) (kb : Nat) (hkb : b.length = kb) (Ab : Option Addr) (cb : Nat) (hb : Ns .u8 w w.heap.size Ab b) (hb8 : ∀ z ∈ b, 0 ≤ z ∧ z ≤ 255) :
    Calls Try.prog 21 #[hd db, .string s, .slice Ab kb cb] w (Dod F w db N P ⟨1, s, ⟨#[]⟩, b, 0⟩) := by
  have hP := h
  obtain ⟨own, es, r, h1, h2, h3⟩ := h
  by_cases hs : okNm s
  · by_cases hf : P.room - used P.files < (kb : Int)
    · have hc : P.code ⟨1, s, ⟨#[]⟩, b, 0⟩ = 72 := by
        unfold Pd.code
        rw [if_neg (fun q => q.elim (fun q => q hs) fun q => absurd q.1 (by simp only; omega)), if_pos rfl]
        simp only
        rw [hkb, if_pos hf]
      refine (append_full h1 s hs Ab kb cb (by rw [h2]; exact hf) hok).mono ?_
      rintro e w' ⟨rfl, hb'⟩
      exact dod_no hP hN hc (by decide) hb'
    · have hc : P.code ⟨1, s, ⟨#[]⟩, b, 0⟩ = 0 := by
        unfold Pd.code
        rw [if_neg (fun q => q.elim (fun q => q hs) fun q => absurd q.1 (by simp only; omega)), if_pos rfl]
        simp only
        rw [hkb, if_neg hf]
      have hrm : P.room ≤ 1073741824 := by
        obtain ⟨_, _, _, _, _, _, _, _, h7, _⟩ := h1
        exact h7.2.2.1
      refine (append_ok h1 hN s hs b kb hkb Ab cb hb hb8 (by rw [h2]; omega) (by omega)).mono ?_
      rintro e w' ⟨rfl, F', own', x', e', hx⟩
      obtain ⟨q1, q2, q3, q4, q5⟩ := hx.out
      refine dod_yes hc h2 h3 q1 q2 ?_ fun t => ?_
      · rw [show fsE (wit es s x') = wit (fsE es) s x'.d from map_wit _ _ _ _, q3, h2]
        unfold didP
        rw [if_pos rfl]
      · rw [q5 t, h2]
        unfold partP didP
        simp only [true_and, if_true]
  · have hc : P.code ⟨1, s, ⟨#[]⟩, b, 0⟩ = 70 := by
      unfold Pd.code
      rw [if_pos (.inl hs)]
    refine (append_name h1 s Ab kb cb hs).mono ?_
    rintro e w' ⟨rfl, hb'⟩
    exact dod_no hP hN hc (by decide) hb'
theorem code_name {C : Cp} (hs : ¬ okNm C.s) : P.code C = 70 := by unfold Pd.code; rw [if_pos (.inl hs)]
theorem code_find {C : Cp} (hs : okNm C.s) (ht : C.k = 3 → okNm C.t) (hk : C.k ≠ 1) : P.code C = (match find P.files C.s with | none => 71 | some b => if C.k = 2 ∧ (C.n < 0 ∨ (b.length : Int) < C.n) then 1 else 0) := by
  unfold Pd.code
  rw [if_neg (fun q => q.elim (fun q => q hs) fun q => q.2 (ht q.1)), if_neg hk]
  rfl
theorem find_es (h2 : fsE es = P.files) (s : Nm) : find P.files s = (find es s).map Fl.d := by rw [← h2, find_map]
theorem pd_cut (h : PD F w db N P) (hN : N < 10000000000000) (s : Nm) (z : Int) :
    Calls Try.prog 27 #[hd db, .string s, .int .i64 z] w (Dod F w db N P ⟨2, s, ⟨#[]⟩, [], z⟩) := by
  have hP := h
  obtain ⟨own, es, r, h1, h2, h3⟩ := h
  by_cases hs : okNm s
  · have hcode := code_find (P := P) (C := ⟨2, s, ⟨#[]⟩, [], z⟩) hs (fun q => absurd q (by simp only; omega)) (by simp only; omega)
    simp only at hcode
    rw [find_es h2] at hcode
    cases hf : find es s with
    | none =>
      rw [hf] at hcode
      refine (cut_none h1 s z hs hf).mono ?_
      rintro e w' ⟨rfl, hb'⟩
      exact dod_no hP hN hcode (by simp) hb'
    | some y =>
      rw [hf] at hcode
      simp only [Option.map_some] at hcode
      by_cases hz : z < 0 ∨ (y.d.length : Int) < z
      · rw [if_pos ⟨by trivial, hz⟩] at hcode
        refine (cut_arg h1 s z hs y hf hz).mono ?_
        rintro e w' ⟨rfl, hb'⟩
        exact dod_no hP hN hcode (by simp) hb'
      · rw [if_neg (fun q => hz q.2)] at hcode
        obtain ⟨m, rfl⟩ : ∃ m : Nat, z = (m : Int) := ⟨z.toNat, by omega⟩
        refine (cut_ok h1 hN s hs y hf m (by omega)).mono ?_
        rintro e w' ⟨rfl, hx⟩
        obtain ⟨F', own', e', q1, q2, q3⟩ := hx.out
        refine dod_yes hcode h2 h3 q1 q2 ?_ fun t => ?_
        · rw [show fsE (wit es s (clipF m y)) = wit (fsE es) s (clipF m y).d from map_wit _ _ _ _, h2]
          unfold didP
          rw [if_neg (by simp only; omega), if_pos rfl]
          simp only [Int.toNat_natCast]
          congr 1
          unfold dat
          rw [find_es h2, hf]
          rfl
        · rw [partP_other (by simp only; omega), ← h2]
          exact q3.2 t
  · refine (cut_name h1 s z hs).mono ?_
    rintro e w' ⟨rfl, hb'⟩
    exact dod_no hP hN (code_name hs) (by decide) hb'
theorem pd_remove (h : PD F w db N P) (hN : N < 10000000000000) (s : Nm) :
    Calls Try.prog 25 #[hd db, .string s] w (Dod F w db N P ⟨4, s, ⟨#[]⟩, [], 0⟩) := by
  have hP := h
  obtain ⟨own, es, r, h1, h2, h3⟩ := h
  by_cases hs : okNm s
  · have hcode := code_find (P := P) (C := ⟨4, s, ⟨#[]⟩, [], 0⟩) hs (fun q => absurd q (by simp only; omega)) (by simp only; omega)
    simp only at hcode
    rw [find_es h2] at hcode
    cases hf : find es s with
    | none =>
      rw [hf] at hcode
      refine (remove_none h1 s hs hf).mono ?_
      rintro e w' ⟨rfl, hb'⟩
      exact dod_no hP hN hcode (by simp) hb'
    | some y =>
      rw [hf] at hcode
      simp only [Option.map_some] at hcode
      rw [if_neg (fun q => absurd q.1 (by omega))] at hcode
      refine (remove_ok h1 hN s hs y hf).mono ?_
      rintro e w' ⟨rfl, hx⟩
      obtain ⟨F', own', e', q1, q2, q3⟩ := hx.out
      refine dod_yes hcode h2 h3 q1 q2 ?_ fun t => ?_
      · rw [show fsE (wout es s) = wout (fsE es) s from map_wout _ _ _, h2]
        unfold didP
        rw [if_neg (by simp only; omega), if_neg (by simp only; omega), if_neg (by simp only; omega)]
      · rw [partP_other (by simp only; omega), ← h2]
        exact q3.2 t
  · refine (remove_name h1 s hs).mono ?_
    rintro e w' ⟨rfl, hb'⟩
    exact dod_no hP hN (code_name hs) (by decide) hb'
theorem pd_rename (h : PD F w db N P) (hN : N < 10000000000000) (s t : Nm) :
    Calls Try.prog 23 #[hd db, .string s, .string t] w (Dod F w db N P ⟨3, s, t, [], 0⟩) := by
  have hP := h
  obtain ⟨own, es, r, h1, h2, h3⟩ := h
  by_cases hs : okNm s
  · by_cases ht : okNm t
    · have hcode := code_find (P := P) (C := ⟨3, s, t, [], 0⟩) hs (fun _ => ht) (by simp only; omega)
      simp only at hcode
      rw [find_es h2] at hcode
      cases hf : find es s with
      | none =>
        rw [hf] at hcode
        refine (rename_none h1 s t hs ht hf).mono ?_
        rintro e w' ⟨rfl, hb'⟩
        exact dod_no hP hN hcode (by simp) hb'
      | some y =>
        rw [hf] at hcode
        simp only [Option.map_some] at hcode
        rw [if_neg (fun q => absurd q.1 (by omega))] at hcode
        refine (rename_ok h1 hN s t hs ht y hf).mono ?_
        rintro e w' ⟨rfl, hx⟩
        obtain ⟨F', own', e', q1, q2, q3⟩ := hx.out
        refine dod_yes hcode h2 h3 q1 q2 ?_ fun t => ?_
        · rw [show fsE (wit (wout es s) t y) = wit (fsE (wout es s)) t y.d from map_wit _ _ _ _, show fsE (wout es s) = wout (fsE es) s from map_wout _ _ _, h2]
          unfold didP
          rw [if_neg (by simp only; omega), if_neg (by simp only; omega), if_pos rfl]
          congr 1
          unfold dat
          rw [find_es h2, hf]
          rfl
        · rw [partP_other (by simp only; omega), ← h2]
          exact q3.2 t
    · have hc : P.code ⟨3, s, t, [], 0⟩ = 70 := by unfold Pd.code; rw [if_pos (.inr ⟨rfl, ht⟩)]
      refine (rename_name2 h1 s t hs ht).mono ?_
      rintro e w' ⟨rfl, hb'⟩
      exact dod_no hP hN hc (by decide) hb'
  · refine (rename_name h1 s t hs).mono ?_
    rintro e w' ⟨rfl, hb'⟩
    exact dod_no hP hN (code_name hs) (by decide) hb'
theorem pd_sync (h : PD F w db N P) : Calls Try.prog 20 #[hd db] w (fun e w' => e = .returned (.tuple #[]) ∧ Hid (∃ F', PD F' w' db N P.sync ∧ Stp F w F' w')) := by
  obtain ⟨own, es, r, h1, h2, h3⟩ := h
  refine (sync_any h1).mono ?_
  rintro e w' ⟨rfl, hx⟩
  exact ⟨rfl, Lib.hid ⟨F, ⟨own, es, [], hx.out.1, h2, trivial⟩, hx.out.2, fun _ => .inl⟩⟩
theorem pd_wipe (h : PD F w db N P) (hr : 0 ≤ P.room) : Calls Try.prog 33 #[hd db] w (fun e w' => e = .returned (.tuple #[]) ∧ Hid (∃ F', PD F' w' db N P.wipe ∧ Stp F w F' w')) := by
  obtain ⟨own, es, r, h1, h2, h3⟩ := h
  refine (wipe_any h1 hr).mono ?_
  rintro e w' ⟨rfl, F', hx⟩
  exact ⟨rfl, Lib.hid ⟨F', ⟨own, [], [], hx.out.1, rfl, trivial⟩, hx.out.2⟩⟩
theorem unE_files {safe : Fs} : ∀ (r : List Un) (es : Es) (q : List Cp) (m : Nat), Tws safe r q → fsE es = fR safe q → m ≤ q.length → fsE (unE r es m) = fR safe (q.drop m)
  | r, es, q, 0, _, h, _ => by cases r <;> exact h
  | [], _, [], _ + 1, _, _, hm => by simp at hm
  | [], _, _ :: _, _ + 1, ht, _, _ => ht.elim
  | _ :: _, _, [], _ + 1, ht, _, _ => ht.elim
  | e :: r, es, c :: q, m + 1, ht, h, hm => by
    rw [List.drop_succ_cons]
    refine unE_files r (undoE e 0 es) q m ht.2 ?_ (by simpa using hm)
    have h1 := undo_xf e 0 (xsE es)
    rw [← undo_ex, fs_xs, fs_xs] at h1
    rw [h1, h, ht.1 0, partP_zero]
theorem tws_at {safe : Fs} : ∀ {r : List Un} {q : List Cp} {i : Nat} {e : Un}, Tws safe r q → r[i]? = some e → ∃ c, q[i]? = some c ∧ ∀ t, undoF e t (fR safe (q.drop i)) = partP c t (fR safe (q.drop (i + 1)))
  | [], _, _, _, _, h => by simp at h
  | a :: r, [], _, _, ht, _ => ht.elim
  | a :: r, c :: q, 0, e, ht, h => by
    simp at h
    subst h
    exact ⟨c, rfl, ht.1⟩
  | a :: r, c :: q, i + 1, e, ht, h => by
    obtain ⟨c', h1, h2⟩ := tws_at (i := i) ht.2 (by simpa using h)
    exact ⟨c', by simpa using h1, fun t => by rw [List.drop_succ_cons, List.drop_succ_cons]; exact h2 t⟩
theorem crash_files (h2 : fsE es = P.files) (h3 : Tws P.safe r P.q) (keep torn : Int) : fsE (crashE r es (P.kept keep) torn) = (P.crash keep torn).files := by
  have hl := h3.len
  have hk : P.kept keep ≤ P.q.length := by unfold Pd.kept; omega
  show _ = (P.crash keep torn).safe
  unfold crashE
  simp only [Pd.crash]
  by_cases hlt : P.kept keep < P.q.length
  · obtain ⟨e, he⟩ : ∃ e, r[r.length - 1 - P.kept keep]? = some e := ⟨_, List.getElem?_eq_getElem (by omega)⟩
    obtain ⟨c, hc, hu⟩ := tws_at h3 he
    rw [he]
    rw [hl] at hc hu
    rw [hc]
    simp only
    rw [if_pos (by omega), if_pos hlt, hl]
    have h1 := undo_xf e torn (xsE (unE r es (P.q.length - 1 - P.kept keep)))
    rw [← undo_ex, fs_xs, fs_xs] at h1
    rw [h1, unE_files r es P.q _ h3 h2 (by omega), hu torn, show P.q.length - 1 - P.kept keep + 1 = P.q.length - P.kept keep by omega]
  · have e1 : fsE es = P.files := h2
    split
    · rw [if_neg (by omega)]
      split
      · rw [if_neg hlt]; exact e1
      · exact e1
    · split
      · rw [if_neg hlt]; exact e1
      · exact e1
theorem pd_crash (h : PD F w db N P) (keep torn : Int) : Calls Try.prog 22 #[hd db, .int .i64 keep, .int .i64 torn] w (fun e w' => e = .returned (.tuple #[]) ∧ Hid (∃ F', PD F' w' db N (P.crash keep torn) ∧ Stp F w F' w')) := by
  obtain ⟨own, es, r, h1, h2, h3⟩ := h
  refine (crash_any h1 keep torn (P.kept keep) (by rw [h3.len]; unfold Pd.kept; omega)).mono ?_
  rintro e w' ⟨rfl, hx⟩
  exact ⟨rfl, Lib.hid ⟨F, ⟨own, _, [], hx.out.1, crash_files h2 h3 keep torn, trivial⟩, hx.out.2, fun _ => .inl⟩⟩
theorem pd_new (w : World) (z : Int) (N : Nat) (hN : N ≤ 10000000000000) : Calls Try.prog 10 #[.int .i64 z] w (fun e w' => ∃ db, e = .returned (hd db) ∧ Hid (PD (fun j => w.heap.size ≤ j ∧ j < w'.heap.size) w' db N ⟨roomOf z, [], []⟩ ∧ Below w.heap.size w w')) := by
  refine (new_any w z).mono ?_
  rintro e w' ⟨db, mb, rfl, hx⟩
  obtain ⟨q1, q2, q3, q4⟩ := hx.out
  refine ⟨db, rfl, Lib.hid ⟨⟨fun _ => 0, [], [], ⟨mb, none, 0, 0, q1, ⟨rfl, World.ownsRow_nil _ _ _ _⟩, ⟨(fun x hx => by cases hx), fun e he => by cases he⟩, (fun x hx => by cases hx), ⟨good_nil N, ?_, ?_, Nat.zero_le _, hN⟩, ⟨q3, q1.lt.1⟩, ⟨q4, q1.lt.2⟩, (fun g hg => by cases hg), fun j hj => hj.2⟩, rfl, trivial⟩, q2⟩⟩
  · show ((used (fsE [])) : Int) ≤ _
    simp only [used, mapV, List.map_nil, List.sum_nil]
    unfold roomOf
    omega
  · unfold roomOf
    simp only
    omega
theorem pd_loose (h : PD F w db N P) (n : Nat) (hn : P.q.length = n) : Calls Try.prog 13 #[hd db] w (fun e w' => e = .returned (.int .i64 n) ∧ w' = w) := by
  obtain ⟨own, es, r, h1, h2, h3⟩ := h
  exact loose_any h1 n (by rw [h3.len]; exact hn)
theorem pd_used (h : PD F w db N P) : Calls Try.prog 14 #[hd db] w (fun e w' => e = .returned (.int .i64 (used P.files)) ∧ w' = w) := by
  obtain ⟨own, es, r, h1, h2, h3⟩ := h
  rw [← h2]
  exact used_any h1
theorem pd_read (h : PD F w db N P) (s : Nm) (hs : okN s) (k : Nat) (hk : (dat P.files s).length = k) :
    Calls Try.prog 19 #[hd db, .string s] w (fun e w' => ∃ A1 c1, e = .returned (.tuple #[.slice A1 k c1, .bool (find P.files s).isSome]) ∧ Hid (w'.ownsRow w.heap.size 5 1 (.slice A1 k c1) k (nums .u8 (dat P.files s)) ∧ Below w.heap.size w w')) := by
  obtain ⟨own, es, r, h1, h2, h3⟩ := h
  have h4 := read_any h1 s hs k (by rw [h2]; exact hk)
  rw [h2] at h4
  rw [find_es h2, Option.isSome_map]
  exact h4
theorem pd_names (h : PD F w db N P) (hN : N ≤ 8000000000000) :
    Calls Try.prog 24 #[hd db] w (fun e w' => ∃ g cap n, e = .returned (.slice (some ⟨g, 0, none⟩) n cap) ∧ Hid (n = P.files.length ∧ w'.ownsRow w.heap.size 9 1 (.slice (some ⟨g, 0, none⟩) n cap) n (P.files.map fun x => .string x.1) ∧ Below w.heap.size w w')) := by
  obtain ⟨own, es, r, h1, h2, h3⟩ := h
  refine (names_any h1 hN).mono ?_
  rintro e w' ⟨g, cap, n, rfl, hx⟩
  refine ⟨g, cap, n, rfl, Lib.hid ⟨?_, ?_, hx.out.2.2⟩⟩
  · rw [hx.out.1, ← h2]
    exact (List.length_map _).symm
  · have e1 : (P.files.map fun x => (Value.string x.1)) = es.map fun x => Value.string x.1 := by
      rw [← h2]
      exact List.map_map
    rw [e1]
    exact hx.out.2.1
end
end Disk
end Go.Proofs.Ytdcppjpjlhbanaa
