/-
  vers.passed; and whether a true one is among some bools.
-/
import Derived.Test.YtbhidndgnldheaaVersMark
namespace Go.Proofs.Ytbhidndgnldheaa
namespace Vers
open Go.RowKit Span

theorem info_bool : (Try.prog.info? 4).map (fun i => (i.zero, i.size, i.bytes)) = some (some (.bool false), 1, 1) := by kernel_rfl

/-- What passed tells: of each one whether one of l came behind it. -/
def PassedPost (l : List Vr) (n : Nat) (w : World) (e : Ending) (w' : World) : Prop :=
  ∃ (g cap : Nat) (ys : List Bool), e = .returned (.slice (some ⟨g, 0, none⟩) n cap) ∧ ys.length = n ∧ w'.ownsRow w.heap.size 4 1 (.slice (some ⟨g, 0, none⟩) n cap) n (bools ys) ∧ Below w.heap.size w w' ∧
    ∀ q, q < n → ys.getD q false = decide (behind l (l.getD q v0).s (l.getD q v0).n)

theorem behind_take {l : List Vr} {k : Nat} (h : k < l.length) (s n : Int) : behind (l.take (k + 1)) s n ↔ behind (l.take k) s n ∨ mem (l.getD k v0).past s n := by
  rw [List.take_succ_eq_append_getElem h, behind_append]
  have e : l.getD k v0 = l[k] := by simp [List.getD_eq_getElem?_getD, h]
  rw [e]
  constructor
  · rintro (h | ⟨v, hv, h⟩)
    · exact .inl h
    · rw [List.mem_singleton.1 hv] at h; exact .inr h
  · rintro (h | h)
    · exact .inl h
    · exact .inr ⟨_, by simp, h⟩

def Passing (l : List Vr) (n g cap : Nat) (w : World) (iv : Value) (wr : World) : Prop :=
  ∃ (k : Nat) (ys : List Bool), iv = .int .i64 k ∧ k ≤ n ∧ ys.length = n ∧ wr.ownsRow w.heap.size 4 1 (.slice (some ⟨g, 0, none⟩) n cap) n (bools ys) ∧ Below w.heap.size w wr ∧
    ∀ q, q < n → ys.getD q false = decide (behind (l.take k) (l.getD q v0).s (l.getD q v0).n)

theorem made_bools (n : Nat) : (madeCells (Value.bool false).cells (n * 1)).toList = bools (List.replicate n false) := by
  have : (Value.bool false).cells = #[Value.bool false] := rfl
  rw [this, Nat.mul_one, toList_madeCells_one]
  simp [bools]

set_option maxRecDepth 100000 in
set_option maxHeartbeats 2000000 in
theorem passed_any (A : Option Addr) (c n : Nat) (l : List Vr) (hn : l.length = n) (hl : FineV l) (w : World) (hv : Vs w 0 w.heap.size A l) (hn2 : n ≤ 1024) :
    Calls Try.prog 61 #[.slice A n c] w (PassedPost l n w) := by
  obtain ⟨i0, hi0, hz0, hz1, hz2⟩ := info_parts info_bool
  have HV := Lib.hid (And.intro hv (And.intro hl hn))
  clear hv hl hn
  go_enter Try.func61, Try.ntmps61
  go_wp2_with (at_make; refine wpList_make_full _ rfl _ _ 32 rfl w.heap.size 4 i0 (.bool false) 1 Try.underlying32 hi0 hz0 hz1 _ _ _ _ n rfl rfl rfl rfl (by rw [hz2]; omega) (by unfold maxLen; omega) (Nat.le_refl _) ?_; intro w1 o1 g1; have b1 : Below w.heap.size w w1 := (Below.refl _ _).grown g1 (Nat.le_refl _) (fun k hk => by cases hk))
  rw [made_bools] at o1
  obtain ⟨base, hbase⟩ : ∃ base, w.heap.size = base := ⟨_, rfl⟩
  have HB := Lib.hid hbase
  have HI : Hid (Passing l n base n w (.int .i64 0) w1) := Lib.hid ⟨0, List.replicate n false, rfl, by omega, by simp, by rw [← hbase]; exact o1, b1, fun q hq => by
    have : ¬ behind (l.take 0) (l.getD q v0).s (l.getD q v0).n := by simp [behind]
    rw [decide_eq_false this]
    simp [List.getD_eq_getElem?_getD, hq]⟩
  rw [hbase]
  clear hbase o1 g1 b1
  go_loopw [11] (fun iv wr => Passing l n base n w iv wr) (fun iv _ => n - (intOf iv).toNat)
  case atStart => exact HI.out
  case round =>
    obtain ⟨k, ys, rfl, hk, hys, ho, hb, hd⟩ := hrel
    clear HI
    by_cases hlt : k < n
    · obtain ⟨b, off, A1, c1, rfl, _, hbB, a0, a1, a2, a3, a4, hpa⟩ := HV.out.1.at HV.out.2.2 hb hlt rfl
      have hkl : k < l.length := by have := HV.out.2.2; omega
      have hmem : l.getD k v0 ∈ l := by
        rw [List.getD_eq_getElem?_getD, List.getElem?_eq_getElem hkl]
        exact List.getElem_mem _
      have hfp := (HV.out.2.1.1 _ hmem).2.1
      have HQ : Hid (∀ q, hitF l (l.getD k v0).past q = decide (mem (l.getD k v0).past (l.getD q v0).s (l.getD q v0).n)) := Lib.hid fun q => rfl
      have HT : Hid (∀ s m, behind (l.take (k + 1)) s m ↔ behind (l.take k) s m ∨ mem (l.getD k v0).past s m) := Lib.hid (behind_take hkl)
      obtain ⟨v, hvv⟩ : ∃ v, l.getD k v0 = v := ⟨_, rfl⟩
      rw [hvv] at a0 a1 a2 a3 a4 hpa hfp
      have HVV := Lib.hid hvv
      obtain ⟨s, vn, vp, vg, vx⟩ := v
      simp only at a0 a1 a2 a3 a4 hfp
      obtain ⟨hps, _, hpb, _, _⟩ := hpa
      simp only at hps hpb
      obtain ⟨kp, hkp⟩ : ∃ kp, vp.length = kp := ⟨_, rfl⟩
      rw [hkp] at a2 hpb
      have hsz := hb.size
      have hbase := HB.out
      have hg := ho.lt base rfl
      have hmk := fun W (hbW : Below w.heap.size w W) (ho' : W.ownsRow w.heap.size 4 1 (.slice (some ⟨base, 0, none⟩) n n) n (bools ys)) (hsp : Ss W w.heap.size A1 vp) =>
        mark_any (some ⟨b, off, none⟩) A1 c c1 n kp l vp HV.out.2.2 hkp HV.out.2.1.2 hfp.2 0 w.heap.size base n ys hys W hbW.size (HV.out.1.below hbW) hsp (by omega) hpb ho'
      have HMK := Lib.hid hmk
      have HO := Lib.hid (And.intro ho (And.intro hb (And.intro hd (And.intro hys hps))))
      have d1 : (0 : Int) ≤ (k : Int) := by omega
      have d2 : (k : Int) < (n : Int) := by omega
      clear hmk ho hb hd hys hvv hkp hmem hfp hps hbase
      go_wp2_with fail
      have hb2 := HO.out.2.1.alloc hsz (.cells #[.int .i64 s, .int .i64 vn, .slice A1 kp c1, .bool vg, .string vx] 69)
      refine (HMK.out _ hb2 (HO.out.1.alloc _) (HO.out.2.2.2.2.alloc hsz _)).mono ?_
      rintro e w2 ⟨⟨v2, rfl⟩, ys2, hy2, ho2, hb3, hd2⟩
      have HE := Lib.hid (And.intro hy2 (And.intro ho2 (And.intro (hb2.trans hb3) hd2)))
      clear hy2 ho2 hb3 hd2 hb2 HMK
      go_wp2_with fail
      exact ⟨⟨k + 1, ys2, rfl, by omega, HE.out.1, HE.out.2.1, HE.out.2.2.1, fun q hq => by
        have h1 := HE.out.2.2.2 q hq
        rw [HO.out.2.2.1 q hq] at h1
        have h2 := HQ.out q
        rw [HVV.out] at h2
        simp only at h2
        have h3 := HT.out (l.getD q v0).s (l.getD q v0).n
        rw [HVV.out] at h3
        simp only at h3
        rw [h1, h2, ← Bool.decide_or]
        congr 1
        exact propext h3.symm⟩, by simp only [intOf]; omega⟩
    · obtain rfl : k = n := by omega
      have hfin : PassedPost l k w (.returned (.slice (some ⟨base, 0, none⟩) k k)) wr := ⟨base, k, ys, rfl, hys, ho, hb, fun q hq => by
        rw [hd q hq, List.take_of_length_le (by have := HV.out.2.2; omega)]⟩
      have HF := Lib.hid hfin
      clear hd ho hb hys hfin HV
      go_wp2_with fail
      go_ret
      exact HF.out

theorem any_index (ys : List Bool) (k : Nat) (h : k < ys.length) : (ys.drop k).any id = (ys.getD k false || (ys.drop (k + 1)).any id) := by
  rw [List.drop_eq_getElem_cons h, List.any_cons]
  simp [List.getD_eq_getElem?_getD, h]

theorem index_any (g cap n : Nat) (ys : List Bool) (hy : ys.length = n) (base : Nat) (w : World) (ho : w.ownsRow base 4 1 (.slice (some ⟨g, 0, none⟩) n cap) n (bools ys)) (hn2 : n ≤ 140737488355328) :
    Calls Try.prog 73 #[.slice (some ⟨g, 0, none⟩) n cap, .bool true] w fun e w' => (∃ z : Int, e = .returned (.int .i64 z) ∧ (0 ≤ z ↔ ys.any id = true)) ∧ w = w' := by
  have HO := Lib.hid (And.intro ho hy)
  clear ho hy
  go_enter Try.func73, Try.ntmps73
  go_wp2
  go_loopw [8] (fun iv wr => ∃ k : Nat, iv = .int .i64 k ∧ k ≤ n ∧ w = wr ∧ Hid (ys.any id = (ys.drop k).any id)) (fun iv _ => n - (intOf iv).toNat)
  case atStart => exact ⟨0, rfl, by omega, rfl, Lib.hid rfl⟩
  case round =>
    obtain ⟨k, rfl, hk, rfl, hst⟩ := hrel
    by_cases hlt : k < n
    · have hc := World.ownsRow.cellAt HO.out.1 k (by omega)
      have hyk : (bools ys)[k]? = some (.bool (ys.getD k false)) := by
        have : k < ys.length := by rw [HO.out.2]; exact hlt
        simp [bools, List.getD_eq_getElem?_getD, this]
      rw [hyk] at hc
      have hs := any_index ys k (by rw [HO.out.2]; exact hlt)
      obtain ⟨y, hyy⟩ : ∃ y, ys.getD k false = y := ⟨_, rfl⟩
      rw [hyy] at hc hs
      have HS := Lib.hid (hst.out.trans hs)
      have d1 : (0 : Int) ≤ (k : Int) := by omega
      have d2 : (k : Int) < (n : Int) := by omega
      clear hs hyk hyy hst
      cases y
      · have HN := Lib.hid (show ys.any id = (ys.drop (k + 1)).any id by rw [HS.out]; simp)
        clear HS
        go_wp2
        exact ⟨⟨k + 1, rfl, by omega, trivial, HN⟩, by simp only [intOf]; omega⟩
      · have HN := Lib.hid (show ys.any id = true by rw [HS.out]; simp)
        clear HS
        go_wp2
        go_ret
        exact ⟨⟨k, rfl, by rw [HN.out]; simp⟩, rfl⟩
    · have hkn : k = n := by omega
      subst hkn
      have HN := Lib.hid (show ys.any id = false by rw [hst.out, List.drop_of_length_le (by rw [HO.out.2]; omega)]; rfl)
      clear hst
      go_wp2
      go_ret
      exact ⟨⟨-1, rfl, by rw [HN.out]; simp⟩, rfl⟩

theorem contains_any (g cap n : Nat) (ys : List Bool) (hy : ys.length = n) (base : Nat) (w : World) (ho : w.ownsRow base 4 1 (.slice (some ⟨g, 0, none⟩) n cap) n (bools ys)) (hn2 : n ≤ 140737488355328) :
    Calls Try.prog 60 #[.slice (some ⟨g, 0, none⟩) n cap, .bool true] w fun e w' => e = .returned (.bool (ys.any id)) ∧ w = w' := by
  have H := Lib.hid (index_any g cap n ys hy base w ho hn2)
  clear ho hy
  go_enter Try.func60, Try.ntmps60
  go_wp2_with fail
  refine H.out.mono ?_
  rintro e w' ⟨⟨z, rfl, hz⟩, rfl⟩
  have HZ := Lib.hid (show decide (0 ≤ z) = ys.any id by
    by_cases h : 0 ≤ z
    · rw [decide_eq_true h, hz.1 h]
    · rw [decide_eq_false h]
      exact (Bool.eq_false_iff.2 fun k => h (hz.2 k)).symm)
  clear hz H
  go_wp2_with fail
  go_ret
  exact ⟨by rw [← HZ.out]; rfl, rfl⟩
end Vers
end Go.Proofs.Ytbhidndgnldheaa
